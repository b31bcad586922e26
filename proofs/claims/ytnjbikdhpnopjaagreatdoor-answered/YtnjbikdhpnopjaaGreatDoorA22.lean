import Derived.Test.YtnjbikdhpnopjaaGreatDoorA11
import Derived.Test.YtnjbikdhpnopjaaGreatDoorA18
set_option linter.all false
set_option maxRecDepth 100000
set_option maxHeartbeats 0
namespace Go.Proofs.Zz
open Go.RowKit Go.Shelf
open List renaming length->N,getD->E
open Go.Value renaming slice->Z,int->I,pointer->Y,agg->FL
open Go.Proofs.Tryz renaming prog->V
open Option renaming some->O,none->xn
open Go.IntKind renaming i64->J
open Bool renaming true->T
open Go renaming World->U,Value->X3
open Go.World renaming heap->H,setCell->UC,cell?->UK
open _root_.Array renaming size->M
open Go.Obj renaming cells->EP
open Go.Ending renaming returned->FN
variable {kc l m r sc:List Int} {rows rows' rs:List (List Int)} {P:Program} {W w x y:U} {R b:Nat} {a:Act}
theorem aeQ(h:l.Perm m):l.sum=m.sum:=by
 induction h with
 |nil=>rfl
 |cons x _ ih=>simp_all
 |swap x y l=>grind
 |trans _ _ h1 h2=>omega
theorem Ry(h:l.Perm m):rQ l=rQ m:=by grind [rQ,NI,BI,List.Perm.length_eq,aeQ]
theorem LX(h:rows.Perm rows'){k:List Int}(hk:rows=[]∨∀r∈rows,au r kc=k):oI kc sc rows=oI kc sc rows':=by
 have a:au (rows.headD []) kc=au (rows'.headD []) kc:=by
  rcases hk with rfl|hk
  .simp_all
  .cases rows with
   |nil=>simp_all
   |cons r rs =>
    cases rows' with
    |nil=>simp_all
    |cons r' rs'=>grind
 grind [oI,List.Perm.length_eq,Ry]
theorem Rz:(oI kc sc (r::rs)).take (N kc)=au r kc:=by grind [oI,au]
def VM:((r::rs).filter λx=>decide (au x kc=au r kc))=r::rs.filter λx=>decide (au x kc=au r kc):=XB (by simp)
theorem yI{kc sc:List Int}:∀{n:Nat} {rows:List (List Int)},N rows<=n->∀{x:List Int},x∈jY kc sc n rows↔∃r∈rows,x=oI kc sc (rows.filter λy=>decide (au y kc=au r kc))
 |0,rows,h,x=>by grind [jY.eq_def]
 |n+1,[],h,x=>by unfold jY;simp
 |n+1,r::rs,h,x=>by
  have hl:=XN (λy=>!decide (au y kc=au r kc)) rs;rw[QO]at h;unfold jY;rw[Z0,uZ,yI (by omega)];have hcut:∀r',au r' kc≠au r kc->((rs.filter λy=>!decide (au y kc=au r kc)).filter λy=>decide (au y kc=au r' kc))=(r::rs).filter λy=>decide (au y kc=au r' kc):=λr' hne=>by rw[List.filter_cons_of_neg (by grind),List.filter_filter];grind
  constructor
  .grind [oI]
  .rintro⟨r',hr',rfl⟩;by_cases e:au r' kc=au r kc
   .left;rw[e]
   .right;rcases Z0.1 hr' with rfl|hr'
    .simp_all
    .exact⟨r',ZY.2 ⟨hr',by simpa using e⟩,by simp_all⟩
theorem xA{kc sc:List Int}:∀{n:Nat} {rows:List (List Int)},N rows<=n->(jY kc sc n rows).Nodup
 |0,rows,h=>by grind [jY.eq_def]
 |n+1,[],h=>by grind [jY.eq_def]
 |n+1,r::rs,h=>by
  have hl:=XN (λy=>!decide (au y kc=au r kc)) rs;rw[QO]at h;unfold jY;rw[uZ,List.nodup_cons];refine⟨λhm=>?_,xA (by omega)⟩;obtain⟨r',hr',e⟩:=(yI (by omega)).1 hm;obtain⟨h1,h2⟩:=ZY.1 hr';have e2:=congrArg (List.take (N kc)) e;obtain⟨t,ts,et⟩:∃t ts,((rs.filter λy=>!decide (au y kc=au r kc)).filter λy=>decide (au y kc=au r' kc))=t::ts:=by
   cases ec:((rs.filter λy=>!decide (au y kc=au r kc)).filter λy=>decide (au y kc=au r' kc)) with
   |nil=>exact absurd (ZY.2 ⟨hr',Qx (Eq.refl (au r' kc))⟩) (by rw[ec];simp)
   |cons t ts=>simp_all
  rw[VM,Rz,et,Rz]at e2;have ht:t∈((rs.filter λy=>!decide (au y kc=au r kc)).filter λy=>decide (au y kc=au r' kc)):=by rw[et];simp
  grind
def Hu(h:rows.Perm rows'):(kK kc sc rows).Perm (kK kc sc rows'):=by
 unfold kK;split
 .rw[LX h (k:=[]) (.inr λr _=>rfl)]
 .refine(List.perm_ext_iff_of_nodup (xA (Qn _)) (xA (Qn _))).2 λx=>?_
  rw[yI (Qn _),yI (Qn _)];have key:∀r,oI kc sc (rows.filter λy=>decide (au y kc=au r kc))=oI kc sc (rows'.filter λy=>decide (au y kc=au r kc)):=λr=>LX (h.filter _) (k:=au r kc) (.inr λy b=>Xa (ZY.1 b).2);constructor
  .rintro⟨r,a,rfl⟩;exact⟨r,h.mem_iff.1 a,key r⟩
  .rintro⟨r,a,rfl⟩;exact⟨r,h.mem_iff.2 a,(key r).symm⟩
theorem Hw{ts:List ah}{q:af}(ok:Ok ts q)(oo:aam ts q)(plan:List ai){db:List aP}(mX:zC ts db=T)(hpos:0<N q.src.xs)(Hr:gL q.src.xs db<=20000):∀(f i:Nat) (v:dX),i<f->dw ts q plan i=O v->v.out=T->
  (gJ ts q plan db f i).Perm (lN q ((bz q.src.xs db).filter (dR q.wh)))/\((E plan i nz).kind=10->bO (DI q.ord.xs) (gJ ts q plan db f i))
 |0,_,_,h,_,_=>by omega
 |f+1,i,v,hi,hv,hout=>by
  rcases iV ts q plan hv with⟨y,h0,hs,es,eo,R⟩|⟨k2,k10,k3,k4,k5,hl0,Kg,l,hl,hn⟩|⟨k3,k5,hl0,Kg,g,hri,l,r,hl,S,hn⟩
  .simp_all
  .obtain⟨_,R,_,ae,C,es,eo,D,_⟩:=XM ts q hn;rw[hout]at D;have h7:7<=(E plan i nz).kind:=Xa D.symm;by_cases y:(E plan i nz).kind=10
   .have W:=Hw ok oo plan mX hpos Hr f (E plan i nz).l.toNat l (by omega) hl (R.2 y)
    conv=>lhs;lhs;unfold gJ
    conv=>rhs;rhs;unfold gJ
    rw[ZU (by omega),ZU (by omega),ZU (by omega),ZU (by omega),Zt y];exact⟨(uX _ _).trans W.1,λ_=>Af _ _⟩
   .have p:l.out=false:=by simp_all
    have b:=jQ ok plan mX f (E plan i nz).l.toNat l (by omega) hl p;have P:=yH ok plan mX f (E plan i nz).l.toNat l (by omega) hl p;unfold oF at C;have L:qB q l=T/\(q.group=T↔(E plan i nz).kind≠9):=by grind
    refine⟨?_,λh=>absurd h y⟩;have a:=L.1;unfold qB at a;rw[Qj,ZW,ZW]at a;have u:(gJ ts q plan db f (E plan i nz).l.toNat).Perm ((bz q.src.xs db).filter (dR q.wh)):=by refine P.perm.trans ?_;rw[XC λx _=>abR (λj hj=>(P.within j hj).1) P.nodup a.2 x];exact(abS ok mX hpos b.gB b.nK a.1).filter _
    conv=>lhs;unfold gJ;rw[ZU (by omega),ZU (by omega)]
    generalize hG:gJ ts q plan db f (E plan i nz).l.toNat=G at b u ⊢;unfold lN;by_cases h9:(E plan i nz).kind=9
    .grind
    .rw[Zt (by omega),Zt (L.2.2 h9)];refine(Hu u).trans (List.Perm.of_eq (GZ ?_ ?_).symm)
     .have X:=BO (cnt:=BQ q.src.xs db) (n:=N q.src.xs) (λk=>by unfold BQ;omega) l.sources;rw[<-BS]at X;have:=b.many;have e:=u.length_eq;rw[b.same,Zm]at e;omega
     .intro r S c hc;have t:=u.mem_iff.2 S;rw[b.same]at t;obtain⟨d,g,rfl⟩:=ZC.1 t;by_cases K:c.toNat<(ak ts q.src.xs).toNat
      .rw[yG,uE K];split
       .rename_i hm
        have A:=XD.2 hm;have Q:=b.lens d g;generalize List.idxOf ((c.toNat:Nat):Int) (bI ts q plan db f (E plan i nz).l.toNat).2=m at A ⊢;have aa:m<N d:=by omega
        rw[show E d m 0=d[m] by grind];exact b.aA d g _ (Zv _)
       .rw[show E (List.replicate (ak ts q.src.xs).toNat (0:Int)) c.toNat 0=0 by grind];right;omega
      .have B:=oP (ak ts q.src.xs).toNat (bI ts q plan db f (E plan i nz).l.toNat).2 d (List.replicate (ak ts q.src.xs).toNat 0);rw[yG];generalize rW (ak ts q.src.xs).toNat (bI ts q plan db f (E plan i nz).l.toNat).2 d (List.replicate (ak ts q.src.xs).toNat 0)=z at B ⊢
       grind [okV]
  .obtain⟨_,_,_,_,_,_,_,D,_⟩:=XM ts q hn
   grind
def jK(f:aF)(ts:List ah)(q:af)(a b c:X3):Array Value:=f.cells ts q ++ #[a,b,c]
def si(kind:Int)(i j:Nat)(L R:List (List Int)):List (List Int):=if kind=3 then dz L R else if kind=4 then jF i j L R else fU i j L R
structure Mi(c:List Int)(R:List (List Int)):Prop where
 few:N R<=1000000
 wide:N c<=1000
 lens:∀r∈R,N r=N c
 small:∀r∈R,∀v∈r,bW v
theorem Su(f:aF)(ts:List ah)(q:af)(ok:Ok ts q)(va vd:X3)(pa:Option Addr)(pc:Nat)(ps:List aG)(n:ai)(li ri:Nat)(gl gr:Nat)(nZ oq:Array X3)(cl cr:ae)(L R:List (List Int))(w:U)(hf:f.At ts q w)(hp:bY w pa ps)(hn:n.cl.At w)(el:n.l=li)(hll:li<N ps)(er:n.r=ri)(hrl:ri<N ps)
  (hcl:cl.At w) (hcr:cr.At w) (hk3:3<=n.kind) (hk5:n.kind<=5) (K1 K2:Int) (hkey:n.kind≠3->∃b,ll ts q n (E ps li bF).sources (E ps ri bF).sources=(K1,K2,b)/\K1∈cl.xs/\K2∈cr.xs) (hL:Mi cl.xs L) (hR:Mi cr.xs R) :
  Calls V 172 #[FL (jK f ts q va (Z pa (N ps) pc) vd),FL n.cells,FL #[.func (.func gl) #[] nZ,cl.val],FL #[.func (.func gr) #[] oq,cr.val]] w λe m=>∃v,e=FN v/\Bw w m/\∀W,Nw w m W->dh aj V (.func (.func gl) #[] nZ) L W->dh aj V (.func (.func gr) #[] oq) R W->dh aj V v (si n.kind (cl.xs.idxOf K1) (cr.xs.idxOf K2) L R) W:=by
 obtain⟨v0,v1,v2,v3,v4,v5,v6,v7,v8,v9,B,C,D,cK,-⟩:=X9 f ts q;have EK:jK f ts q va (Z pa (N ps) pc) vd=#[v0,v1,v2,v3,v4,v5,v6,v7,v8,v9,B,C,D,va,Z pa (N ps) pc,vd]:=by unfold jK;rw[cK];rfl
 have Om:n.cells=#[I J n.kind,I J n.l,I J n.r,I J n.source,n.cl.val,I J n.key,n.co.val]:=rfl;rw[EK,Om,el,er];obtain⟨w1,aQ,av,G⟩:=aL w #[v0,v1,v2,v3,v4,v5,v6,v7,v8,v9,B,C,D,va,Z pa (N ps) pc,vd] 149;obtain⟨w2,aR,ax,K⟩:=aL w1 #[I J n.kind,I J li,I J ri,I J n.source,n.cl.val,I J n.key,n.co.val] 102;obtain⟨w3,aS,ay,P⟩:=aL w2 #[.func (.func gl) #[] nZ,cl.val] 194;obtain⟨w4,aT,Q,aA⟩:=aL w3 #[.func (.func gr) #[] oq,cr.val] 194;have y:=az ay Q;have z:=az ax y;have k:=az av z;have jJ:=G.of (z.block _ G.lt);have qU:=K.of (y.block _ K.lt);have aa:=P.of (Q.block _ P.lt);obtain⟨fZ,iy,jd,iK,iL,je,jf,jR,jy,jA,dS,eP,dU⟩:=jJ.oh;have nS:=jJ.at 14;obtain⟨nQ,oW,pg,qV,qg,rZ,sj⟩:=qU.k7;obtain⟨aB,Sn⟩:=aa.k2;obtain⟨aC,Sq⟩:=aA.k2;have X:=Zh k;have JN:Hid (∀x,Bw w x->n.kind=3->Calls V 88 #[.func (.func gl) #[] nZ,.func (.func gr) #[] oq] x λe m=>∃v,e=FN v/\Bw x m/\∀W,Nw x m W->dh aj V (.func (.func gl) #[] nZ) L W->dh aj V (.func (.func gr) #[] oq) R W->dh aj V v (si n.kind (cl.xs.idxOf K1) (cr.xs.idxOf K2) L R) W):=λx j e=>by unfold si;rw[Zt e];exact aiO gl gr nZ oq L R x hR.few (λa i=>by rw[hL.lens a i];exact hL.wide) (λa i=>by rw[hR.lens a i];exact hR.wide)
 have aO:Hid (∀x,Bw w x->n.kind=4->Calls V 205 #[.func (.func gl) #[] nZ,.func (.func gr) #[] oq,I J (bA cl.xs K1),I J (bA cr.xs K2)] x λe m=>∃v,e=FN v/\Bw x m/\∀W,Nw x m W->dh aj V (.func (.func gl) #[] nZ) L W->dh aj V (.func (.func gr) #[] oq) R W->dh aj V v (si n.kind (cl.xs.idxOf K1) (cr.xs.idxOf K2) L R) W):=λx j e=>by unfold si;rw[ZU (by omega),Zt e];obtain⟨_,_,p,A⟩:=hkey (by omega);have p:=XD.2 p;have A:=XD.2 A;exact ai3 gl gr nZ oq _ _ L R x hR.few (λa i=>by rw[hL.lens a i];exact hL.wide) (λa i=>by rw[hR.lens a i];exact hR.wide) (λa i=>by rw[hL.lens a i];exact p) (λa i=>by rw[hR.lens a i];exact A) hL.small hR.small
 have aP:Hid (∀x,Bw w x->n.kind=5->Calls V 206 #[.func (.func gl) #[] nZ,.func (.func gr) #[] oq,I J (bA cl.xs K1),I J (bA cr.xs K2)] x λe m=>∃v,e=FN v/\Bw x m/\∀W,Nw x m W->dh aj V (.func (.func gl) #[] nZ) L W->dh aj V (.func (.func gr) #[] oq) R W->dh aj V v (si n.kind (cl.xs.idxOf K1) (cr.xs.idxOf K2) L R) W):=λx j e=>by unfold si;rw[ZU (by omega),ZU (by omega)];obtain⟨_,_,p,A⟩:=hkey (by omega);have p:=XD.2 p;have A:=XD.2 A;exact aft gl gr nZ oq _ _ L R x hR.few (λa i=>by rw[hL.lens a i];exact hL.wide) (λa i=>by rw[hR.lens a i];exact hR.wide) (λa i=>by rw[hL.lens a i];exact p) (λa i=>by rw[hR.lens a i];exact A)
 obtain⟨⟨pb,po,rfl,c0,c1,c2,c3,c4,c5⟩,aD⟩:=(hp.below k).2 li hll;obtain⟨⟨aY,aZ,e',d0,d1,d2,d3,d4,d5⟩,aH⟩:=(hp.below k).2 ri hrl;cases e';have vU:Hid (n.kind≠3->∀x,Bw w4 x->Calls V 173 #[FL #[.func (.func gl) #[] nZ,cl.val],I J K1] x λe m=>e=FN (I J (bA cl.xs K1))/\Bw x m):=λh x j=>yL _ cl K1 x ⟨gl,nZ,rfl⟩ (Qo (az k j) hcl) (by grind);have ag:Hid (n.kind≠3->∀x,Bw w4 x->Calls V 173 #[FL #[.func (.func gr) #[] oq,cr.val],I J K2] x λe m=>e=FN (I J (bA cr.xs K2))/\Bw x m):=λh x j=>yL _ cr K2 x ⟨gr,oq,rfl⟩ (Qo (az k j) hcr) (by grind);have ak:Hid (n.kind≠3->∃b,∀x,Bw w4 x->Cb 160 #[FL #[v0,v1,v2,v3,v4,v5,v6,v7,v8,v9,B,C,D],FL #[I J n.kind,I J li,I J ri,I J n.source,n.cl.val,I J n.key,n.co.val],FL (E ps li bF).cells,FL (E ps ri bF).cells] x (.tuple #[I J K1,I J K2,.bool b])):=λh=>by obtain⟨b,p,_⟩:=hkey h;refine⟨b,λx j=>?_⟩;have:=nR f ts q n (E ps li bF) (E ps ri bF) x ok (hf.below (az k j)) (Qo (az k j) hn) aD.sources aH.sources;grind
 have aW:=hp.1;have Kg:(li:Int)<(N ps:Int):=by omega
 have aX:(ri:Int)<(N ps:Int):=by omega
 clear hf hp hn hcl hcr hkey hL hR cK Om EK ok G K P aA jJ qU aa av ax ay Q k z y aD aH el er;generalize si n.kind (cl.xs.idxOf K1) (cr.xs.idxOf K2) L R=RS at*;generalize bA cl.xs K1=P1 at*;generalize bA cr.xs K2=P2 at*;generalize E ps li bF=PL at*;generalize E ps ri bF=PR at*;obtain⟨lk,ls,bf,lo,lz,bg⟩:=PL;obtain⟨rk,rs,bn,ro,rz,bq⟩:=PR;obtain⟨nk,nl,nr,ns,Kq,key,Kr⟩:=n;simp only[aG.cells]at*;generalize Kq.val=NCL at*;generalize Kr.val=NCO at*;generalize lo.val=LO at*;generalize ro.val=RO at*;generalize cl.val=CL at*;generalize cr.val=CR at*;by_cases h3:nk=3
 .subst h3;have d:=JN.o w4 X.o rfl;go_enter Tryz.func172,Tryz.ntmps172;go_wp2_with fail;refine d.mono ?_;rintro e w5 ⟨v,rfl,g,u⟩;have HV:=Zh u;clear u;go_wp2;go_ret;exact⟨v,rfl,X.o.trans (g.mono X.o.size),λW hW=>HV.o W (hW.more X.o.size)⟩
 .obtain⟨kb,aI⟩:=ak.o h3;obtain⟨JS,aJ,aK⟩:=dQ aI (vU.o h3) (ag.o h3);have uu:(nk==3)=false:=by simpa using h3
  clear ak vU ag aI JN;go_enter Tryz.func172,Tryz.ntmps172;go_upto_region 3 with fail;clear aQ aR aS aT;refine Qp ?_;refine ah9 ?_;refine qA5 ?_;go_big_quiet_want;refine⟨.tuple #[I J K1,I J K2,.bool kb],λx j=>?_,?_⟩
  .have hC:=Calls.within j (JS.o x j);go_simp
  simp only[pU];go_big_quiet_on;refine qA6 ?_;refine qA1 ?_;refine wpQuiet_nil ?_;intro w5 g;have jG:=Zh g;obtain⟨aM,aU⟩:=XK (cB g aB) (cB g Sn);obtain⟨aN,aV⟩:=XK (cB g aC) (cB g Sq);have au:=cB g nQ;clear g c0 c1 c2 c3 c4 c5 d0 d1 d2 d3 d4 d5 fZ iy jd iK iL je jf jR jy jA dS eP dU nS nQ oW pg qV qg rZ sj aB Sn aC Sq;go_upto_region 4 with fail;refine Qp ?_;refine K4 ?_;go_big_quiet_want;refine⟨I J P1,λx j=>?_,?_⟩
  .have hC:=Calls.within j (aJ.o x (jG.o.trans (j.mono jG.o.size)));go_simp
  simp only[pU];go_big_quiet_on;refine K4 ?_;go_big_quiet_want;refine⟨I J P2,λx j=>?_,?_⟩
  .have hC:=Calls.within j (aK.o x (jG.o.trans (j.mono jG.o.size)));go_simp
  simp only[pU];go_big_quiet_on;refine K4 ?_;refine wpQuiet_nil ?_;intro w6 S;have t:=Zh (X.o.trans ((jG.o.trans (S.mono jG.o.size)).mono X.o.size));obtain⟨bu,bz,bB⟩:=aaX S aM aN au;clear S aM aU aN aV au aJ aK JS;rcases (show nk=4∨nk=5 by omega) with rfl|rfl
  .have d:=aO.o w6 t.o rfl;go_wp2_with fail;refine d.mono ?_;rintro e w7 ⟨v,rfl,mO,u⟩;have HV:=Zh u;clear u;go_wp2;go_ret;exact⟨v,rfl,t.o.trans (mO.mono t.o.size),λW hW=>HV.o W (hW.more t.o.size)⟩
  .have d:=aP.o w6 t.o rfl;go_wp2_with fail;refine d.mono ?_;rintro e w7 ⟨v,rfl,mO,u⟩;have HV:=Zh u;clear u;go_wp2;go_ret;exact⟨v,rfl,t.o.trans (mO.mono t.o.size),λW hW=>HV.o W (hW.more t.o.size)⟩
def wtk{ops:Array Oper}{Q:Exit->Act->World->Prop}{md:Region.Mode}{fuel:Nat}{listed:Array Bool}{oi:Oper}{o:Nat}{u:Value}(i:Nat)(v:Value)(hS:Kept (λb=>b≠R) W w)(c:W.cell? (aD b o)=some u)(hb:b≠R)(h:wpAnyH P md ops Q (λx=>Kept (λb=>b≠R) W x) fuel (listed.setIfInBounds i true) (a.put oi.dst v) w)(hi:ops[i]? = some oi:=by exact rfl)(hs:Region.noSelect ops=true:=by kernel_rfl)(hf:Region.free md ops listed i=true:=by kernel_rfl)(hr:(Region.ready md ops listed).contains i=true:=by kernel_rfl)(hQ:∀c a w,Q (.panic c) (a.put oi.dst v) w->Q (.panic c) a w:=by exact λ_ _ _ h=>h)(hg:Region.wanted oi (yielded ops a.tmps)=true:=by rfl)(hy:∀x,x.cell? (aD b o)=some u->(execOp a.eval oi).run P x=.ok (.value v) x:=by intro x d;go_simp):wpAnyH P md ops Q (λx=>Kept (λb=>b≠R) W x) (fuel+1) listed a w:=
 Qa hi hs hf hr hQ (.inl ⟨hg,λx d=>hy x (Q0 c d hb)⟩) hS h
def oK{X K':Act->U->Prop}(hK:Shut (∀a w,Kept (λb=>b≠R) W w->(Kept (λb=>b≠R) W w->X a w)->K' a w)){w':U}(hS:Kept (λb=>b≠R) W w)(hb:Bw w w')(h:Kept (λb=>b≠R) W w'->X a w'):K' a w':=hK.o _ _ (hS.trans (QB hb λ_ hb _=>hb)) h
def amP(hx:Kept (λb=>b≠R) w x)(hb:b≠R){v0 v1 v2 v3 v4 v5 v6 v7 v8 v9 v10 v11 v12:X3}(a0:UK w (aD b 0)=O v0)(a1:UK w (aD b 1)=O v1)(a2:UK w (aD b 2)=O v2)(a3:UK w (aD b 3)=O v3)(a4:UK w (aD b 4)=O v4)(a5:UK w (aD b 5)=O v5)(a6:UK w (aD b 6)=O v6)(a7:UK w (aD b 7)=O v7)(a8:UK w (aD b 8)=O v8)(a9:UK w (aD b 9)=O v9)(nA:UK w (aD b 10)=O v10)(oC:UK w (aD b 11)=O v11)(a12:UK w (aD b 12)=O v12) :
  UK x (aD b 0)=O v0/\UK x (aD b 1)=O v1/\UK x (aD b 2)=O v2/\UK x (aD b 3)=O v3/\UK x (aD b 4)=O v4/\UK x (aD b 5)=O v5/\UK x (aD b 6)=O v6/\UK x (aD b 7)=O v7/\UK x (aD b 8)=O v8/\UK x (aD b 9)=O v9/\UK x (aD b 10)=O v10/\UK x (aD b 11)=O v11/\UK x (aD b 12)=O v12:=
 ⟨Q0 a0 hx hb,Q0 a1 hx hb,Q0 a2 hx hb,Q0 a3 hx hb,Q0 a4 hx hb,Q0 a5 hx hb,Q0 a6 hx hb,Q0 a7 hx hb,Q0 a8 hx hb,Q0 a9 hx hb,Q0 nA hx hb,Q0 oC hx hb,Q0 a12 hx hb⟩
def Ed(P:Program)(w0:U)(X:List (List Int) × List Int)(w:U)(g:Nat)(lb:Array X3)(c:ae)(w':U):Prop:=
 Bw w w'/\c.xs=X.2/\∀W,Bw w0 W->Nw w w' W->dh aj P (.func (.func g) #[] lb) X.1 W/\aj.At c W
def qh(P:Program)(w0:U)(X:List (List Int) × List Int)(w:U)(e:Ending)(w':U):Prop:=
 ∃(g:Nat) (lb:Array X3) (c:ae),e=FN (FL #[.func (.func g) #[] lb,c.val])/\Ed P w0 X w g lb c w'
def Nw.back{z:U}(h:Nw x z W)(hb:Bw y z):Nw x y W:=(QB hb λ_ hb _=>hb).trans h
def jZ{t:TypeId}{w0:U}{g:Nat}{lb:Array X3}{c:ae}{X:List (List Int) × List Int}(hb:Bw w y)(hR:M (H w)<=R)(gr:GB y R t #[Value.nilFunc,Z xn 0 0])(hc:c.xs=X.2)(hall:∀W,Bw w0 W->Kept (λb=>M (H w)<=b/\b≠R) y W->dh aj P (.func (.func g) #[] lb) X.1 W/\aj.At c W) :
  Kept (λb=>b≠R) y (UC (UC y (aD R 0) (.func (.func g) #[] lb)) (aD R 1) c.val)/\GB (UC (UC y (aD R 0) (.func (.func g) #[] lb)) (aD R 1) c.val) R t #[.func (.func g) #[] lb,c.val]/\Ed P w0 X w g lb c (UC (UC y (aD R 0) (.func (.func g) #[] lb)) (aD R 1) c.val):=by have a:Kept (λb=>b≠R) y (UC (UC y (aD R 0) (.func (.func g) #[] lb)) (aD R 1) c.val):=(Q8 _ _ _ (λh=>h rfl)).trans (Q8 _ _ _ (λh=>h rfl));refine⟨a,(gr.set 0 _).set 1 _,hb.trans (a.below hb.size (λb hb=>by show b≠R;omega)),hc,λW d e=>hall W d ?_⟩;exact(a.mono λb _ h=>h.2).trans (e.mono λb _ h=>h.1)
def acs(f:aF)(ts:List ah)(q:af)(va vp:X3)(d:Option Addr)(dc:Nat)(db:List aP)(n:ai)(s t:Nat)(w0 w:U)(hw:Bw w0 w)(hf:f.At ts q w0)(hd:uG w0 d db)(hk:n.kind=1)(es:n.source=s)(hs:s<N q.src.xs)(et:E q.src.xs s 0=t)(ht:t<N db) :
  Calls V 114 #[FL (jK f ts q va vp (Z d (N db) dc)),FL n.cells] w (qh V w0 (fu db (t:Int),fw ts q.src.xs (s:Int)) w):=by
 obtain⟨v0,v1,v2,v3,v4,v5,v6,v7,v8,v9,y,z,A,cK,aB,-⟩:=X9 f ts q;obtain⟨sb,so,aC,aG⟩:=Qg (hf.query.src) hs;obtain rfl:v0=Z (O (aD sb so)) (N q.src.xs) q.src.cap:=by rw[aB];unfold ae.val;rw[aC]
 obtain⟨⟨bq,aH,-⟩,-⟩:=id hd;obtain⟨j,m,aU,au⟩:=Qf aH ht;subst aU;have EK:jK f ts q va vp (Z (O (aD j m)) (N db) dc)=#[Z (O (aD sb so)) (N q.src.xs) q.src.cap,v1,v2,v3,v4,v5,v6,v7,v8,v9,y,z,A,va,vp,Z (O (aD j m)) (N db) dc]:=by unfold jK;rw[cK];rfl
 have Om:n.cells=#[I J n.kind,I J n.l,I J n.r,I J n.source,n.cl.val,I J n.key,n.co.val]:=rfl;rw[EK,Om,hk,es];obtain⟨w1,aV,B,C⟩:=aL w #[Z (O (aD sb so)) (N q.src.xs) q.src.cap,v1,v2,v3,v4,v5,v6,v7,v8,v9,y,z,A,va,vp,Z (O (aD j m)) (N db) dc] 149;obtain⟨w2,aW,u,D⟩:=aL w1 #[I J 1,I J n.l,I J n.r,I J (s:Int),n.cl.val,I J n.key,n.co.val] 102;obtain⟨w3,aX,av,aI⟩:=aL w2 #[Value.nilFunc,Z xn 0 0] 194;have aa:=az u av;have ag:=az B aa;have jJ:=C.of (aa.block _ C.lt);have qU:=D.of (av.block _ D.lt);obtain⟨fZ,iy,jd,iK,iL,je,jf,jR,jy,jA,dS,eP,dU⟩:=jJ.oh;have nT:=jJ.at 15;obtain⟨nQ,-,-,qV,-⟩:=qU.k7;have G:M (H w)≠M (H w2):=by have:=C.lt;have:=u.size;omega
 have L:M (H w1)≠M (H w2):=by have:=D.lt;omega
 have ak:=az hw ag;obtain⟨k1,k2⟩:=nH ak (aG s hs) (au t ht);rw[et]at k1;have aA:j≠M (H w2):=by have h1:=rE (au t ht);have h2:=hw.size;have h3:=B.size;have h4:=u.size;omega
 have hR:(E db t rz).rs.map (·.xs)=fu db (t:Int):=rfl;have UR:Hid (∀x,Calls V 87 #[(E db t rz).val] x λe w'=>∃v,e=FN v/\Bw x w'/\∀W,Nw x w' W->bD W (E db t rz).ad (E db t rz).rs->dh aj V v ((E db t rz).rs.map (·.xs)) W):=λx=>aiN (E db t rz) x;have ry:Hid (∀x,Bw w0 x->Calls V 169 #[FL #[Z (O (aD sb so)) (N q.src.xs) q.src.cap,v1,v2,v3,v4,v5,v6,v7,v8,v9,y,z,A],I J (s:Int)] x λe w'=>∃iv:ae,e=FN iv.val/\iv.xs=fw ts q.src.xs (s:Int)/\aj.At iv w'/\Bw x w'/\∀b,aj.blk iv=O b->M (H x)<=b):=λx hx=>by have h:=Ki f ts q (s:Int) x (hf.below hx);rw[cK]at h;exact h
 rw[hR]at UR;obtain⟨aK,aM,Sv,Dz,aN,aY,aZ⟩:=ze hd ak ag aI G L aA;obtain⟨HT,HZ⟩:=aJ ht (Qz B.size u.size);have bn:(s:Int)<(N q.src.xs:Int):=by omega
 have bg:(t:Int)<(N db:Int):=by omega
 clear aB aC hf hd hw aG au aH B u av C D aI jJ qU ag aa ak G L aA hR cK EK Om es et hk;generalize (E db t rz).val=TV at*;generalize fu db (t:Int)=TR at*;generalize fw ts q.src.xs (s:Int)=CO at*;generalize n.cl.val=NCL at*;generalize n.co.val=NCO at*;go_enter Tryz.func114,Tryz.ntmps114;go_upto_region 3 with fail;clear aV aW aX;refine Qv (S:=λx=>Kept (λb=>b≠M (H w2)) w3 x) (by kernel_rfl) ((QB (Qm _ _) λ_ h _=>h).trans (QB ((Qm _ _).drew) λ_ h _=>h)) (λi=>?_);refine wt 0 (Y (O (aD (M (H w)) 15))) i ?_;refine wtk 1 (Z (O (aD j m)) (N db) dc) i nT aN.o ?_;refine wt 2 (I J (t:Int)) i ?_;refine wt 3 (Y (O (aD j (m+t)))) i ?_;refine wtk 4 TV i k2 aZ.o ?_;refine wt 6 (Y (O (aD (M (H w)) 0))) i ?_;refine wT 7 (FL #[Z (O (aD sb so)) (N q.src.xs) q.src.cap,v1,v2,v3,v4,v5,v6,v7,v8,v9,y,z,A]) i (λx hx=>?_) ?_
 .have e0:=amP hx aN.o fZ iy jd iK iL je jf jR jy jA dS eP dU;go_simp
 refine wt 8 (Y (O (aD (M (H w1)) 3))) i ?_;refine wtk 9 (I J (s:Int)) i qV aY.o ?_;refine wR 5 λK hK=>?_;go_simp;refine(UR.o _).mono ?_;rintro e w4 ⟨v,rfl,aO,ax⟩;refine oK hK i aO λi=>?_;clear hK K;refine wR 10 λK hK=>?_;go_simp;have k:Bw w3 w4:=(Qm _ _).drew.trans aO;refine(ry.o _ (az aM.o k)).mono ?_;rintro e w5 ⟨⟨lQ,dE,fM⟩,rfl,aQ,JO,ay,aR⟩;simp only[ae.val];refine oK hK i ay λi=>?_;clear hK K;have Gh:=az k ay;obtain⟨g,lb,rfl⟩:∃g lb,v=.func (.func g) #[] lb:=by obtain⟨g,lb,h,_⟩:=ax w4 (QB (Qm _ _) λ_ h _=>h) ((aK.o.2 t HT.o).below (az aM.o k));exact⟨g,lb,h⟩
 have aS:=Dz.o.lt;have aT:=Sv.o.size;have Q:∀W,Bw w0 W->Kept (λb=>M (H w)<=b/\b≠M (H w2)) w5 W->dh aj V (.func (.func g) #[] lb) TR W/\aj.At ⟨lQ,dE,fM⟩ W:=λW h0 hW=>by
  refine⟨ax W (Nw.back (Kept.mono hW λb _ h=>?_) ay) ((aK.o.2 t HT.o).below h0),aj.keep JO hW.size λb hb bf=>hW.block b hb ?_⟩
  .have h2:M (H w3)<=b:=Qz (by simp) h;exact⟨by omega,by omega⟩
  .have h2:=aR b bf;have h3:=k.size;exact⟨by omega,by omega⟩
 obtain⟨kE,gE,R⟩:=jZ (P:=V) (w0:=w0) (w:=w) (g:=g) (lb:=lb) (X:=(TR,CO)) (az Sv.o Gh) HZ.o (Dz.o.of (Gh.block _ Dz.o.lt)) aQ Q;have g5:=Dz.o.of (Gh.block _ Dz.o.lt);obtain⟨q9,JR⟩:=aJ R (xE gE);obtain⟨z0,z1⟩:=g5.k2;have y0:=g5.frozen 0;have y1:=g5.frozen 1;have Wh:=λ(a:Addr) (c:Array X3) (w:U)=>run_store V w a (.func (.func g) #[] c) .plain rfl;clear R gE g5 ax aQ JO k Gh Q aR aS aT;refine wt 11 (FL #[.func (.func g) #[] lb,Z lQ (N fM) dE]) i ?_;refine wR 12 λK hK=>?_;go_simp;refine hK.o _ _ (i.trans kE) (λi=>?_);clear hK K;refine wD ?_;try simp only[pU]
 go_wp2_with fail;exact Zw (kL (p:=4) rfl rfl JR.o) rfl ⟨g,lb,⟨lQ,dE,fM⟩,rfl,q9.o⟩
structure afA(wh:List aB)(C:List Int)(rows:List (List Int))(nums:List Int):Prop where
 few:N nums<=64
 num:∀i∈nums,0<=i/\i<N wh
 gU:∀i∈nums,∀x∈aN (E wh i.toNat lz).cs,x∈C
 lens:∀r∈rows,N r=N C
def Kept.afB{w3:U}(h:Kept (λb=>M (H w)<=b/\b≠R) y W)(h1:M (H w)<=R)(h2:R<M (H w3)):Nw w3 y W:=Kept.mono h λb _ a=>⟨by omega,by omega⟩
def acu(f:aF)(ts:List ah)(q:af)(ok:Ok ts q)(po:Option Addr)(pc:Nat)(pl:List ai)(pa:Option Addr)(pac:Nat)(ps:List aG)(vd:X3)(n:ai)(li:Nat)(w0 w:U)(Nq:Int)(hw:Bw w0 w)(hf:f.At ts q w0)(hn:fP w0 po pl)(hp:bY w0 pa ps)(hps:N ps=N pl)(hcl:n.cl.At w0)(hco:n.co.At w0)(el:n.l=li)(hll:li<N pl)
  (h3:∀i,i<N q.wh->(E q.wh i lz).cs.length<=3) (hcond:∀i,i<N q.wh->∀d∈(E q.wh i lz).cs,fV d Nq=T) (XL X:List (List Int) × List Int)
  (hl:∀x,Bw w0 x->Calls V 114 #[FL (jK f ts q (Z po (N pl) pc) (Z pa (N ps) pac) vd),FL (E pl li nz).cells] x (qh V w0 XL x))
  (c2:n.kind=2->X=(XL.1.filter (jq q.wh XL.2 n.cl.xs),XL.2)/\afA q.wh XL.2 XL.1 n.cl.xs)
  (c6:n.kind=6->X=(fA (aK XL.2 n.co.xs) XL.1,XL.2)/\(∀x∈n.co.xs,x∈XL.2)/\0<N n.co.xs/\N n.co.xs<=1000/\Mi XL.2 XL.1)
  (hk:n.kind=2∨n.kind=6) :
  Calls V 114 #[FL (jK f ts q (Z po (N pl) pc) (Z pa (N ps) pac) vd),FL n.cells] w (qh V w0 X w):=by
 obtain⟨v0,v1,v2,v3,v4,v5,v6,v7,v8,v9,ax,ay,aA,cK,-,bq,-⟩:=X9 f ts q;obtain⟨nb,no,bI,Sw,Sy,Sz,SA,SC,SE,SF,-,-⟩:=hn.2 li hll;subst bI;have EK:jK f ts q (Z (O (aD nb no)) (N pl) pc) (Z pa (N ps) pac) vd=#[v0,v1,v2,v3,v4,v5,v6,v7,v8,v9,ax,ay,aA,Z (O (aD nb no)) (N pl) pc,Z pa (N ps) pac,vd]:=by unfold jK;rw[cK];rfl
 have Om:n.cells=#[I J n.kind,I J n.l,I J n.r,I J n.source,n.cl.val,I J n.key,n.co.val]:=rfl;have Wv:(E pl li nz).cells=#[I J (E pl li nz).kind,I J (E pl li nz).l,I J (E pl li nz).r,I J (E pl li nz).source,(E pl li nz).cl.val,I J (E pl li nz).key,(E pl li nz).co.val]:=rfl;rw[EK,Wv]at hl;rw[EK,Om,el];obtain⟨w1,bJ,aS,aB⟩:=aL w #[v0,v1,v2,v3,v4,v5,v6,v7,v8,v9,ax,ay,aA,Z (O (aD nb no)) (N pl) pc,Z pa (N ps) pac,vd] 149;obtain⟨w2,bK,L,aC⟩:=aL w1 #[I J n.kind,I J (li:Int),I J n.r,I J n.source,n.cl.val,I J n.key,n.co.val] 102;obtain⟨B,bL,aT,aU⟩:=aL w2 #[Value.nilFunc,Z xn 0 0] 194;have aN:=az L aT;have aO:=az aS aN;have au:=az hw aO;have jJ:=aB.of (aN.block _ aB.lt);have qU:=aC.of (aT.block _ aC.lt);obtain⟨fZ,iy,jd,iK,iL,je,jf,jR,jy,jA,dS,eP,dU⟩:=jJ.oh;have mZ:=jJ.at 13;have nS:=jJ.at 14;have nT:=jJ.at 15;obtain⟨nQ,oW,pg,qV,qg,rZ,sj⟩:=qU.k7;obtain⟨Sw,Sy,Sz,SA,SC⟩:=qA au Sw Sy Sz SA SC;obtain⟨SE,SF⟩:=nH au SE SF;have bZ:=hn.1;have cu:(li:Int)<(N pl:Int):=by omega
 obtain⟨HL,aH,Sv,Dz,bu,bz,HZ⟩:=ze hl au aO aU jJ qU (show M (H w)<=M (H w2)/\M (H w)≠M (H w2)/\M (H w1)≠M (H w2)/\M (H w2)<M (H B) from ⟨Qz aS.size L.size,by have:=aB.lt;have:=L.size;omega,by have:=aC.lt;omega,aU.lt⟩);obtain⟨HF,Al,ry,H3,bM,Pb⟩:=MP hf hcl hco h3 hcond c2;obtain⟨aV,Ii⟩:=aJ c6 (show #[v0,v1,v2,v3,v4,v5,v6,v7,v8,v9,ax,ay,aA,Z (O (aD nb no)) (N pl) pc,Z pa (N ps) pac,vd][1]? = O (Z q.gI (N q.wh) q.bP) from congrArg O bq);clear hl aS L aT aB aC aU jJ qU aO aN au hn hp hcl hco hf hw h3 hcond c2 c6 cK EK Om Wv bq el ok hps;obtain⟨nk,nl,nr,ns,Kq,key,Kr⟩:=n;simp only at*;generalize (E pl li nz).kind=l0 at*;generalize (E pl li nz).l=l1 at*;generalize (E pl li nz).r=l2 at*;generalize (E pl li nz).source=l3 at*;generalize (E pl li nz).cl.val=l4 at*;generalize (E pl li nz).key=l5 at*;generalize (E pl li nz).co.val=l6 at*;obtain⟨bN,bO,aW⟩:=Kq;obtain⟨bA,bB,aX⟩:=Kr;simp only[ae.val]at*;have cz:(nk==1)=false:=by rcases hk with h|h <;> simp[h]
 go_enter Tryz.func114,Tryz.ntmps114;go_upto_region 4 with fail;go_cut [6] from 32 to 39 (λc wx=>∃(bl g:Nat) (lb:Array X3) (cv:ae),c=Y (O (aD bl 0))/\M (H B)<=bl/\GB wx bl 194 #[.func (.func g) #[] lb,cv.val]/\Ed V w0 XL B g lb cv wx)
 case first=>
  refine wH B λm=>?_;refine wA6 0 m ?_;refine sN 6 m ?_;refine wJ 7 8 (λK t=>?_) λK t=>?_
  .skip;go_simp;refine(HL.o _ (az aH.o m)).mono ?_;rintro e y ⟨g,lb,⟨lQ,dE,fM⟩,rfl,aI,C,k⟩;simp only[ae.val];refine oT t m aI λm=>?_
   clear t K;refine wR 8 λK t=>?_;go_simp;refine oA t m λbG=>?_;clear t K;obtain⟨y2,D⟩:∃z,y.alloc (EP #[Value.nilFunc,Z xn 0 0] 194)=z:=⟨_,rfl⟩;have aY:=dN y (EP #[Value.nilFunc,Z xn 0 0] 194);have Io:=GB.alloc y #[Value.nilFunc,Z xn 0 0] 194;rw[D]at aY Io bG;rw[D];clear D;have A:M (H B)<=M (H y):=m.size;have gn:GB y2 (M (H y)) 194 #[Value.nilFunc,Z xn 0 0]:=Io;have aP:=jZ (P:=V) (w0:=w0) (w:=B) (y:=y2) (R:=M (H y)) (g:=g) (lb:=lb) (c:=⟨lQ,dE,fM⟩) (X:=XL) bG A gn C (λW h0 hW=>k W h0 (Kept.trans' (QB aY λ_ h _=>h) hW λb hb hs=>⟨hs,by show b≠_;omega⟩));obtain⟨kE,gE,j⟩:=aP;obtain⟨z0,z1⟩:=gn.k2;have y0:=gn.frozen 0;have y1:=gn.frozen 1;have Wh:=λ(a:Addr) (c:Array X3) (w:U)=>run_store V w a (.func (.func g) #[] c) .plain rfl;obtain⟨q9,zn⟩:=aJ j gE;clear j gE gn k C;refine wR 9 λK t=>?_;go_simp;refine t.o _ _ q9.o.1 (λm=>?_);refine wD ?_;try simp only[pU]
   go_wp2_with fail;go_meet;exact⟨M (H y),g,lb,⟨lQ,dE,fM⟩,rfl,A,zn.o,q9.o⟩
  .skip;go_simp;refine oA t m λm=>?_
   obtain⟨y2,D⟩:∃z,B.drew.alloc (EP #[Value.nilFunc,Z xn 0 0] 194)=z:=⟨_,rfl⟩;have cO:M (H y2)=M (H B)+1:=by rw[<-D];simp
   have Io:GB y2 (M (H B)) 194 #[Value.nilFunc,Z xn 0 0]:=by rw[<-D];exact GB.alloc B.drew _ _
   have aZ:Bw B y2:=by rw[<-D];exact m
   rw[D];refine wR 7 λK t=>?_;go_simp;refine(HL.o _ (az aH.o aZ)).mono ?_;rintro e y ⟨g,lb,⟨lQ,dE,fM⟩,rfl,aI,C,k⟩;simp only[ae.val];refine oT t aZ aI λm=>?_;clear t K;have A:M (H B)<=M (H B):=(Qn _);have gn:GB y (M (H B)) 194 #[Value.nilFunc,Z xn 0 0]:=Io.of (aI.block _ Io.lt);have aP:=jZ (P:=V) (w0:=w0) (w:=B) (y:=y) (R:=M (H B)) (g:=g) (lb:=lb) (c:=⟨lQ,dE,fM⟩) (X:=XL) m A gn C (λW h0 hW=>k W h0 (Kept.mono hW λb _ h=>⟨by omega,by have h':M (H y2)<=b:=h;omega⟩));obtain⟨kE,gE,j⟩:=aP;obtain⟨z0,z1⟩:=gn.k2;have y0:=gn.frozen 0;have y1:=gn.frozen 1;have Wh:=λ(a:Addr) (c:Array X3) (w:U)=>run_store V w a (.func (.func g) #[] c) .plain rfl;obtain⟨q9,zn⟩:=aJ j gE;clear j gE gn k C;refine wR 9 λK t=>?_;go_simp;refine t.o _ _ q9.o.1 (λm=>?_);clear t K;refine wD ?_;try simp only[pU]
   go_wp2_with fail;go_meet;exact⟨M (H B),g,lb,⟨lQ,dE,fM⟩,rfl,A,zn.o,q9.o⟩
 case rest=>
 obtain⟨bl,g,lb,cv,rfl,A,bC,aa,C,k⟩:=hcut;obtain⟨w4,bQ⟩:∃x,x=wc:=⟨_,rfl⟩;subst bQ;clear bJ bK bL Sw Sy Sz SA SC SE SF fZ iy jd iK iL je jf jR jy jA dS eP dU mZ nS nT nQ oW pg qV qg rZ sj;have jJ:=bu.o.of (aa.block _ bu.o.lt);have qU:=bz.o.of (aa.block _ bz.o.lt);obtain⟨fZ,iy,jd,iK,iL,je,jf,jR,jy,jA,dS,eP,dU⟩:=jJ.oh;have mZ:=jJ.at 13;have nS:=jJ.at 14;have nT:=jJ.at 15;obtain⟨nQ,oW,pg,qV,qg,rZ,sj⟩:=qU.k7;obtain⟨f0,f1⟩:=bC.k2;have sK:=Zh (az aH.o aa);obtain⟨bD,Kt,Dv,oJ,bR⟩:=J2 (k w4 sK.o (Qy _ _)).2.1 k C aa A;obtain⟨Q,JW,G⟩:=cv;simp only[ae.val]at*;clear jJ qU bC k C aa A;rcases hk with hk|hk
 .have H2:=Zh (Pb.o hk);clear Pb aV;subst hk;have L:=Sg #[v0,v1,v2,v3,v4,v5,v6,v7,v8,v9,ax,ay,aA,Z (O (aD nb no)) (N pl) pc,Z pa (N ps) pac,vd] q.gI q.bP q.wh Ii.o g lb ⟨Q,JW,G⟩ ⟨bN,bO,aW⟩ XL.1 Nq w4 (HF.o.below sK.o).query.wh bD.o (Qo sK.o Al.o) H2.o.2.few H2.o.2.num (λi hi x hx=>by show x∈G;rw[Dv.o];exact H2.o.2.gU i hi x hx) H3.o bM.o (λr hr=>by show N r=N G;rw[Dv.o];exact H2.o.2.lens r hr);simp only[ae.val]at L;go_wp2_with fail;refine L.mono ?_;rintro e w5 ⟨g',u,rfl,ag,bS⟩;have Gh:=az oJ.o ag;obtain⟨eX,-⟩:=H2.o;have SG:ae.xs ⟨Q,JW,G⟩=X.2:=by rw[eX];exact Dv.o
  have vX:∀W,Bw w0 W->Kept (λb=>M (H w)<=b/\b≠M (H w2)) w5 W->dh aj V (.func (.func g') #[] u) X.1 W/\aj.At ⟨Q,JW,G⟩ W:=λW h0 hW=>by have hz:=HZ.o;have av:=oJ.o.size;have hN:=hW.afB hz.1 hz.2.2.2;have hA:=Kt.o W h0 (hN.back ag);refine⟨?_,hA.2⟩;have:=bS W (hN.more av) hA.1;rw[eX];rw[show jq q.wh XL.2 aW=jq q.wh G aW by rw[Dv.o]];exact this
  have g5:=Dz.o.of (Gh.block _ Dz.o.lt);obtain⟨kE,gE,j⟩:=jZ (P:=V) (w0:=w0) (w:=w) (y:=w5) (g:=g') (lb:=u) (c:=⟨Q,JW,G⟩) (X:=X) (az Sv.o Gh) HZ.o.1 g5 SG vX;obtain⟨q9,JR⟩:=aJ j (xE gE);obtain⟨z0,z1⟩:=g5.k2;have y0:=g5.frozen 0;have y1:=g5.frozen 1;have Wh:=λ(a:Addr) (c:Array X3) (w:U)=>run_store V w a (.func (.func g') #[] c) .plain rfl;clear j gE g5 SG vX Gh;go_wp2_with fail;exact Zw (kL (p:=4) rfl rfl JR.o) rfl ⟨g',u,⟨Q,JW,G⟩,rfl,q9.o⟩
 .skip;have H6:=Zh (aV.o hk);clear Pb aV;subst hk;have vU:=Zh λx (hx:Bw w4 x)=>EN (.func (.func g) #[] lb) ⟨Q,JW,G⟩ ⟨bA,bB,aX⟩ x ⟨g,lb,rfl⟩ (Qo hx bD.o) (Qo (az sK.o hx) ry.o) (λy hy=>by show y∈G;rw[Dv.o];exact H6.o.2.1 y hy) H6.o.2.2.2.1
  simp only[ae.val]at vU;go_upto_region 9 with fail;refine Qv (S:=λx=>Kept (λb=>b≠M (H w2)) w4 x) (by kernel_rfl) (QB ((Qm _ _).drew) λ_ h _=>h) (λm=>?_);have JU:=Zh (show bl≠M (H w2) by have:=bR.o;have:=HZ.o.2.2.2;omega);refine wt 0 (Y (O (aD bl 0))) m ?_;refine wtk 1 (.func (.func g) #[] lb) m f0 JU.o ?_;refine wT 2 (FL #[.func (.func g) #[] lb,Z Q (N G) JW]) m (λx hx=>?_) ?_
  .have e0:=Q0 f0 hx JU.o;have e1:=Q0 f1 hx JU.o;go_simp
  refine wt 3 (Y (O (aD (M (H w1)) 6))) m ?_;refine wtk 4 (Z bA (N aX) bB) m sj HZ.o.2.2.1 ?_;refine wt 7 (Y (O (aD bl 1))) m ?_;refine wtk 8 (Z Q (N G) JW) m f1 JU.o ?_;refine wR 5 λK t=>?_;go_simp;refine(vU.o _ ((Qm _ _).drew)).mono ?_;rintro e w5 ⟨iv,rfl,aM,bE,ag,bF⟩;refine oK t m ag λm=>?_;clear t K;have Gh:Bw w4 w5:=(Qm _ _).drew.trans ag;have bf:=H6.o.2.2.2.2;have bg:N iv.xs=N aX:=by rw[aM];unfold aK;simp
  refine wR 6 λK t=>?_;have bn:=aiP g lb iv XL.1 w5 (by rw[bg];exact H6.o.2.2.1) bf.few (λr hr=>by rw[aM,bf.lens r hr];exact Ho (by rw[Dv.o]) (λy hy=>by rw[Dv.o];exact H6.o.2.1 y hy));obtain⟨UU,UN,bT⟩:=dQ aM bE bF;obtain⟨bU,bV,bW⟩:=iv;simp only[ae.val]at*;clear aM bE bF bg;go_simp;refine bn.mono ?_;rintro e w6 ⟨v,rfl,ak,wN⟩;refine oK t m ak λm=>?_;clear t K;obtain⟨eX,-⟩:=H6.o;have SG:ae.xs ⟨Q,JW,G⟩=X.2:=by rw[eX];exact Dv.o
  have aQ:=az oJ.o (az Gh ak);have aR:∀W,Bw w0 W->Kept (λb=>M (H w)<=b/\b≠M (H w2)) w6 W->dh aj V v X.1 W/\aj.At ⟨Q,JW,G⟩ W:=λW h0 hW=>by have hz:=HZ.o;have av:=oJ.o.size;have bH:=Gh.size;have hN:=hW.afB hz.1 hz.2.2.2;have hA:=Kt.o W h0 ((hN.back ak).back Gh);refine⟨?_,hA.2⟩;rw[eX];have h:=wN W (hN.more (Qz av bH)) hA.1 (aj.keep (x:=⟨bU,bV,bW⟩) UN.o (hN.back ak).size λb hb bX=>(hN.back ak).block b hb (Qz av (bT.o b bX))).1;rw[<-Dv.o,<-UU.o];exact h
  obtain⟨g',u,rfl⟩:∃g' u,v=.func (.func g') #[] u:=by obtain⟨h1,-⟩:=aR w6 (az aH.o aQ) (Qy _ _);obtain⟨g',u,h,_⟩:=h1;exact⟨g',u,h⟩
  have vX:=aR;have Gh:=aQ;clear aR aQ wN bn;have g5:=Dz.o.of (Gh.block _ Dz.o.lt);obtain⟨kE,gE,j⟩:=jZ (P:=V) (w0:=w0) (w:=w) (y:=w6) (g:=g') (lb:=u) (c:=⟨Q,JW,G⟩) (X:=X) (az Sv.o Gh) HZ.o.1 g5 SG vX;obtain⟨q9,JR⟩:=aJ j (xE gE);obtain⟨z0,z1⟩:=g5.k2;have y0:=g5.frozen 0;have y1:=g5.frozen 1;have Wh:=λ(a:Addr) (c:Array X3) (w:U)=>run_store V w a (.func (.func g') #[] c) .plain rfl;clear j gE g5 SG vX Gh;refine wt 9 (FL #[.func (.func g') #[] u,Z Q (N G) JW]) m ?_;refine wR 10 λK t=>?_;go_simp;refine t.o _ _ (m.trans kE) (λm=>?_);clear t K;refine wD ?_;try simp only[pU]
  go_wp2_with fail;exact Zw (kL (p:=4) rfl rfl JR.o) rfl ⟨g',u,⟨Q,JW,G⟩,rfl,q9.o⟩
def acv(f:aF)(ts:List ah)(q:af)(ok:Ok ts q)(po:Option Addr)(pc:Nat)(pl:List ai)(pa:Option Addr)(pac:Nat)(ps:List aG)(vd:X3)(n:ai)(li ri:Nat)(w0 w:U)(Nq:Int)(hw:Bw w0 w)(hf:f.At ts q w0)(hn:fP w0 po pl)(hp:bY w0 pa ps)(hps:N ps=N pl)(hcl:n.cl.At w0)(hco:n.co.At w0)(el:n.l=li)(hll:li<N pl)(er:n.r=ri)(hrl:ri<N pl)
  (h3:∀i,i<N q.wh->(E q.wh i lz).cs.length<=3) (hcond:∀i,i<N q.wh->∀d∈(E q.wh i lz).cs,fV d Nq=T) (XL X:List (List Int) × List Int)
  (hl:∀x,Bw w0 x->Calls V 114 #[FL (jK f ts q (Z po (N pl) pc) (Z pa (N ps) pac) vd),FL (E pl li nz).cells] x (qh V w0 XL x))
  (XR:List (List Int) × List Int) (hr:∀x,Bw w0 x->Calls V 114 #[FL (jK f ts q (Z po (N pl) pc) (Z pa (N ps) pac) vd),FL (E pl ri nz).cells] x (qh V w0 XR x))
  (hk3:3<=n.kind) (hk5:n.kind<=5) (K1 K2:Int) (hkey:n.kind≠3->∃b,ll ts q n (E ps li bF).sources (E ps ri bF).sources=(K1,K2,b)/\K1∈XL.2/\K2∈XR.2) (hRL:Mi XL.2 XL.1) (hRR:Mi XR.2 XR.1)
  (hX:X=((si n.kind (XL.2.idxOf K1) (XR.2.idxOf K2) XL.1 XR.1).filter (jq q.wh (XL.2++XR.2) n.cl.xs),XL.2++XR.2)) (hKO:afA q.wh (XL.2++XR.2) (si n.kind (XL.2.idxOf K1) (XR.2.idxOf K2) XL.1 XR.1) n.cl.xs) :
  Calls V 114 #[FL (jK f ts q (Z po (N pl) pc) (Z pa (N ps) pac) vd),FL n.cells] w (qh V w0 X w):=by
 obtain⟨v0,v1,v2,v3,v4,v5,v6,v7,v8,v9,ag,ak,au,cK,-,bR,-⟩:=X9 f ts q;obtain⟨nb,no,dH,Sw,Sy,Sz,SA,SC,SE,SF,-,-⟩:=hn.2 li hll;subst dH;obtain⟨eQ,eT,dI,aI,aK,aM,aN,aO,aP,aQ,-,-⟩:=hn.2 ri hrl;cases dI;have EK:jK f ts q (Z (O (aD nb no)) (N pl) pc) (Z pa (N ps) pac) vd=#[v0,v1,v2,v3,v4,v5,v6,v7,v8,v9,ag,ak,au,Z (O (aD nb no)) (N pl) pc,Z pa (N ps) pac,vd]:=by unfold jK;rw[cK];rfl
 have Om:n.cells=#[I J n.kind,I J n.l,I J n.r,I J n.source,n.cl.val,I J n.key,n.co.val]:=rfl;have Wv:(E pl li nz).cells=#[I J (E pl li nz).kind,I J (E pl li nz).l,I J (E pl li nz).r,I J (E pl li nz).source,(E pl li nz).cl.val,I J (E pl li nz).key,(E pl li nz).co.val]:=rfl;have bJ:(E pl ri nz).cells=#[I J (E pl ri nz).kind,I J (E pl ri nz).l,I J (E pl ri nz).r,I J (E pl ri nz).source,(E pl ri nz).cl.val,I J (E pl ri nz).key,(E pl ri nz).co.val]:=rfl;have bK:Hid (∀(x:U) (gl gr:Nat) (nZ oq:Array X3) (cl cr:ae),Bw w0 x->cl.xs=XL.2->cr.xs=XR.2->cl.At x->cr.At x->Calls V 172 #[FL (jK f ts q (Z (O (aD nb no)) (N pl) pc) (Z pa (N ps) pac) vd),FL n.cells,FL #[.func (.func gl) #[] nZ,cl.val],FL #[.func (.func gr) #[] oq,cr.val]] x λe w'=>∃v,e=FN v/\Bw x w'/\∀W,Nw x w' W->dh aj V (.func (.func gl) #[] nZ) XL.1 W->dh aj V (.func (.func gr) #[] oq) XR.1 W->dh aj V v (si n.kind (XL.2.idxOf K1) (XR.2.idxOf K2) XL.1 XR.1) W):=λx gl gr nZ oq cl cr A e1 e2 h1 h2=>by have h:=Su f ts q ok (Z (O (aD nb no)) (N pl) pc) vd pa pac ps n li ri gl gr nZ oq cl cr XL.1 XR.1 x (hf.below A) (hp.below A) (Qo A hcl) el (by omega) er (by omega) h1 h2 hk3 hk5 K1 K2 (by rw[e1,e2];exact hkey) (by rw[e1];exact hRL) (by rw[e2];exact hRR);rw[e1,e2]at h;exact h
 rw[EK,Om,el,er]at bK;rw[EK,Wv]at hl;rw[EK,bJ]at hr;rw[EK,Om,el,er];obtain⟨w1,dJ,bA,aY⟩:=aL w #[v0,v1,v2,v3,v4,v5,v6,v7,v8,v9,ag,ak,au,Z (O (aD nb no)) (N pl) pc,Z pa (N ps) pac,vd] 149;obtain⟨w2,dK,aZ,bf⟩:=aL w1 #[I J n.kind,I J (li:Int),I J (ri:Int),I J n.source,n.cl.val,I J n.key,n.co.val] 102;obtain⟨w3,dL,hk3,bB⟩:=aL w2 #[Value.nilFunc,Z xn 0 0] 194;have bq:=az aZ hk3;have bu:=az bA bq;have aX:=az hw bu;have jJ:=aY.of (bq.block _ aY.lt);have qU:=bf.of (hk3.block _ bf.lt);obtain⟨fZ,iy,jd,iK,iL,je,jf,jR,jy,jA,dS,eP,dU⟩:=jJ.oh;have mZ:=jJ.at 13;have nS:=jJ.at 14;have nT:=jJ.at 15;obtain⟨nQ,oW,pg,qV,qg,rZ,sj⟩:=qU.k7;obtain⟨aI,aK,aM,aN,aO,aP,aQ,Sw⟩:=wK aX aI aK aM aN aO aP aQ Sw;obtain⟨Sy,Sz,SA,SC,SE,SF⟩:=JY aX Sy Sz SA SC SE SF;have eF:(li:Int)<(N pl:Int):=by omega
 have eD:(ri:Int)<(N pl:Int):=by omega
 obtain⟨HL,HR,ay,Sv,Dz,bS,bT⟩:=ze hl hr aX bu bB jJ qU;obtain⟨Q,HF,Al,ry,H3,dM,HX⟩:=ze (show M (H w)<=M (H w2)/\M (H w)≠M (H w2)/\M (H w1)≠M (H w2)/\M (H w2)<M (H w3) from ⟨Qz bA.size aZ.size,by have:=aY.lt;have:=aZ.size;omega,by have:=bf.lt;omega,bB.lt⟩) hf hcl hco h3 hcond hX;obtain⟨bg,bU,bV,Ii⟩:=om hKO hRL hRR (show #[v0,v1,v2,v3,v4,v5,v6,v7,v8,v9,ag,ak,au,Z (O (aD nb no)) (N pl) pc,Z pa (N ps) pac,vd][1]? = O (Z q.gI (N q.wh) q.bP) from congrArg O bR);clear hkey hRL hRR hX hKO hr bJ er hl bA aZ hk3 aY bf bB jJ qU bu bq aX hn hp hcl hco hf hw h3 hcond cK EK Om Wv bR el ok hps;obtain⟨nk,nl,nr,ns,Kq,key,Kr⟩:=n;simp only at*;generalize (E pl li nz).kind=l0 at*;generalize (E pl li nz).l=l1 at*;generalize (E pl li nz).r=l2 at*;generalize (E pl li nz).source=l3 at*;generalize (E pl li nz).cl.val=l4 at*;generalize (E pl li nz).key=l5 at*;generalize (E pl li nz).co.val=l6 at*;generalize (E pl ri nz).kind=r0 at*;generalize (E pl ri nz).l=r1 at*;generalize (E pl ri nz).r=r2 at*;generalize (E pl ri nz).source=r3 at*;generalize (E pl ri nz).cl.val=r4 at*;generalize (E pl ri nz).key=r5 at*;generalize (E pl ri nz).co.val=r6 at*;obtain⟨bC,bD,aV⟩:=Kq;obtain⟨dO,dP,dR⟩:=Kr;simp only[ae.val]at*;have eG:(nk==1)=false:=by
  have:nk≠1:=by omega
  simpa using this
 have eH:(nk==2)=false:=by
  have:nk≠2:=by omega
  simpa using this
 have eO:(nk==6)=false:=by
  have:nk≠6:=by omega
  simpa using this
 go_enter Tryz.func114,Tryz.ntmps114;go_upto_region 4 with fail;go_cut [6] from 32 to 39 (λc wx=>∃(bl g:Nat) (lb:Array X3) (cv:ae),c=Y (O (aD bl 0))/\M (H w3)<=bl/\GB wx bl 194 #[.func (.func g) #[] lb,cv.val]/\Ed V w0 XL w3 g lb cv wx)
 case first=>as_aux_lemma=>
  refine wH w3 λj=>?_;refine wT 0 (FL #[v0,v1,v2,v3,v4,v5,v6,v7,v8,v9,ag,ak,au,Z (O (aD nb no)) (N pl) pc,Z pa (N ps) pac,vd]) j (λx A=>?_) ?_
  .have e0:=vM A fZ iy jd iK iL je jf jR jy jA dS eP dU;have e1:=aaX A mZ nS nT;go_simp
  refine wt 1 (Y (O (aD (M (H w)) 13))) j ?_;refine wtc 2 (Z (O (aD nb no)) (N pl) pc) j mZ ?_;refine wt 3 (Y (O (aD (M (H w1)) 1))) j ?_;refine wtc 4 (I J (li:Int)) j oW ?_;refine wt 5 (Y (O (aD nb (no+li*7)))) j ?_;refine wT 6 (FL #[I J l0,I J l1,I J l2,I J l3,l4,I J l5,l6]) j (λx A=>?_) ?_
  .have e0:=tO A Sw Sy Sz SA SC SE SF;go_simp
  refine wJ 7 8 (λK t=>?_) λK t=>?_
  .skip;go_simp;refine(HL.o _ (az ay.o j)).mono ?_;rintro e y ⟨g,lb,⟨lQ,dE,fM⟩,rfl,aa,C,k⟩;simp only[ae.val];refine oT t j aa λj=>?_
   clear t K;refine wR 8 λK t=>?_;go_simp;refine oA t j λaW=>?_;clear t K;obtain⟨y2,u⟩:∃z,y.alloc (EP #[Value.nilFunc,Z xn 0 0] 194)=z:=⟨_,rfl⟩;have aT:=dN y (EP #[Value.nilFunc,Z xn 0 0] 194);have Io:=GB.alloc y #[Value.nilFunc,Z xn 0 0] 194;rw[u]at aT Io aW;rw[u];clear u;have B:=j.size;have D:=Io;have av:=jZ (P:=V) (w0:=w0) (w:=w3) (y:=y2) (R:=M (H y)) (g:=g) (lb:=lb) (c:=⟨lQ,dE,fM⟩) (X:=XL) aW B D C (λW h0 hW=>k W h0 (Kept.trans' (QB aT λ_ h _=>h) hW λb hb hs=>⟨hs,by show b≠_;omega⟩));obtain⟨kE,gE,m⟩:=av;obtain⟨z0,z1⟩:=D.k2;have y0:=D.frozen 0;have y1:=D.frozen 1;have Wh:=λ(a:Addr) (c:Array X3) (w:U)=>run_store V w a (.func (.func g) #[] c) .plain rfl;obtain⟨q9,zn⟩:=aJ m gE;clear m gE D k C;refine wR 9 λK t=>?_;go_simp;refine t.o _ _ q9.o.1 (λj=>?_);clear t K;refine wD ?_;try simp only[pU]
   go_wp2_with fail;go_meet;exact⟨M (H y),g,lb,⟨lQ,dE,fM⟩,rfl,B,zn.o,q9.o⟩
  .skip;go_simp;refine oA t j λj=>?_
   clear t K;obtain⟨y2,u⟩:∃z,w3.drew.alloc (EP #[Value.nilFunc,Z xn 0 0] 194)=z:=⟨_,rfl⟩;have dC:M (H y2)=M (H w3)+1:=by rw[<-u];simp
   have Io:GB y2 (M (H w3)) 194 #[Value.nilFunc,Z xn 0 0]:=by rw[<-u];exact GB.alloc w3.drew _ _
   have aU:Bw w3 y2:=by rw[<-u];exact j
   rw[u];clear u j;refine wR 7 λK t=>?_;go_simp;refine(HL.o _ (az ay.o aU)).mono ?_;rintro e y ⟨g,lb,⟨lQ,dE,fM⟩,rfl,aa,C,k⟩;simp only[ae.val];refine oT t aU aa λj=>?_;clear t K;have B:M (H w3)<=M (H w3):=(Qn _);have D:=Io.of (aa.block _ Io.lt);have av:=jZ (P:=V) (w0:=w0) (w:=w3) (y:=y) (R:=M (H w3)) (g:=g) (lb:=lb) (c:=⟨lQ,dE,fM⟩) (X:=XL) j B D C (λW h0 hW=>k W h0 (Kept.mono hW λb _ h=>⟨by have h':=h;omega,by have h':=h;omega⟩));obtain⟨kE,gE,m⟩:=av;obtain⟨z0,z1⟩:=D.k2;have y0:=D.frozen 0;have y1:=D.frozen 1;have Wh:=λ(a:Addr) (c:Array X3) (w:U)=>run_store V w a (.func (.func g) #[] c) .plain rfl;obtain⟨q9,zn⟩:=aJ m gE;clear m gE D k C;refine wR 9 λK t=>?_;go_simp;refine t.o _ _ q9.o.1 (λj=>?_);clear t K;refine wD ?_;try simp only[pU]
   go_wp2_with fail;go_meet;exact⟨M (H w3),g,lb,⟨lQ,dE,fM⟩,rfl,B,zn.o,q9.o⟩
 case rest=>
 obtain⟨bl,g,lb,cv,rfl,B,bW,aR,C,k⟩:=hcut;obtain⟨w4,dV⟩:∃x,x=wc:=⟨_,rfl⟩;subst dV;have bL:=aR;obtain⟨aI,aK,aM,aN,aO⟩:=qA bL aI aK aM aN aO;obtain⟨aP,aQ⟩:=nH bL aP aQ;clear dJ dK dL Sw Sy Sz SA SC SE SF fZ iy jd iK iL je jf jR jy jA dS eP dU mZ nS nT nQ oW pg qV qg rZ sj;have jJ:=bS.o.of (aR.block _ bS.o.lt);have qU:=bT.o.of (aR.block _ bT.o.lt);obtain⟨fZ,iy,jd,iK,iL,je,jf,jR,jy,jA,dS,eP,dU⟩:=jJ.oh;have mZ:=jJ.at 13;have nS:=jJ.at 14;have nT:=jJ.at 15;obtain⟨nQ,oW,pg,qV,qg,rZ,sj⟩:=qU.k7;obtain⟨f0,f1⟩:=bW.k2;have sK:=Zh (az ay.o aR);obtain⟨eU,Kt,Dv,oJ,dW⟩:=J2 (k w4 sK.o (Qy _ _)).2.1 k C aR B;obtain⟨JV,JW,Ee⟩:=cv;simp only[ae.val]at*;clear jJ qU bW k C aR B;go_upto_region 10 with fail;go_cut [7] from 61 to 68 (λc wx=>∃(bl g:Nat) (lb:Array X3) (cv:ae),c=Y (O (aD bl 0))/\M (H w4)<=bl/\GB wx bl 194 #[.func (.func g) #[] lb,cv.val]/\Ed V w0 XR w4 g lb cv wx)
 case first=>as_aux_lemma=>
  refine wH w4 λj=>?_;refine wT 0 (FL #[v0,v1,v2,v3,v4,v5,v6,v7,v8,v9,ag,ak,au,Z (O (aD nb no)) (N pl) pc,Z pa (N ps) pac,vd]) j (λx A=>?_) ?_
  .have e0:=vM A fZ iy jd iK iL je jf jR jy jA dS eP dU;have e1:=aaX A mZ nS nT;go_simp
  refine wt 1 (Y (O (aD (M (H w)) 13))) j ?_;refine wtc 2 (Z (O (aD nb no)) (N pl) pc) j mZ ?_;refine wt 3 (Y (O (aD (M (H w1)) 2))) j ?_;refine wtc 4 (I J (ri:Int)) j pg ?_;refine wt 5 (Y (O (aD nb (no+ri*7)))) j ?_;refine wT 6 (FL #[I J r0,I J r1,I J r2,I J r3,r4,I J r5,r6]) j (λx A=>?_) ?_
  .have e0:=tO A aI aK aM aN aO aP aQ;go_simp
  refine wJ 7 8 (λK t=>?_) λK t=>?_
  .skip;go_simp;refine(HR.o _ (az sK.o j)).mono ?_;rintro e y ⟨g,lb,⟨lQ,dE,fM⟩,rfl,aa,C,k⟩;simp only[ae.val];refine oT t j aa λj=>?_
   clear t K;refine wR 8 λK t=>?_;go_simp;refine oA t j λaW=>?_;clear t K;obtain⟨y2,u⟩:∃z,y.alloc (EP #[Value.nilFunc,Z xn 0 0] 194)=z:=⟨_,rfl⟩;have aT:=dN y (EP #[Value.nilFunc,Z xn 0 0] 194);have Io:=GB.alloc y #[Value.nilFunc,Z xn 0 0] 194;rw[u]at aT Io aW;rw[u];clear u;have B:=j.size;have D:=Io;have av:=jZ (P:=V) (w0:=w0) (w:=w4) (y:=y2) (R:=M (H y)) (g:=g) (lb:=lb) (c:=⟨lQ,dE,fM⟩) (X:=XR) aW B D C (λW h0 hW=>k W h0 (Kept.trans' (QB aT λ_ h _=>h) hW λb hb hs=>⟨hs,by show b≠_;omega⟩));obtain⟨kE,gE,m⟩:=av;obtain⟨z0,z1⟩:=D.k2;have y0:=D.frozen 0;have y1:=D.frozen 1;have Wh:=λ(a:Addr) (c:Array X3) (w:U)=>run_store V w a (.func (.func g) #[] c) .plain rfl;obtain⟨q9,zn⟩:=aJ m gE;clear m gE D k C;refine wR 9 λK t=>?_;go_simp;refine t.o _ _ q9.o.1 (λj=>?_);clear t K;refine wD ?_;try simp only[pU]
   go_wp2_with fail;go_meet;exact⟨M (H y),g,lb,⟨lQ,dE,fM⟩,rfl,B,zn.o,q9.o⟩
  .skip;go_simp;refine oA t j λj=>?_
   clear t K;obtain⟨y2,u⟩:∃z,w4.drew.alloc (EP #[Value.nilFunc,Z xn 0 0] 194)=z:=⟨_,rfl⟩;have dC:M (H y2)=M (H w4)+1:=by rw[<-u];simp
   have Io:GB y2 (M (H w4)) 194 #[Value.nilFunc,Z xn 0 0]:=by rw[<-u];exact GB.alloc w4.drew _ _
   have aU:Bw w4 y2:=by rw[<-u];exact j
   rw[u];clear u j;refine wR 7 λK t=>?_;go_simp;refine(HR.o _ (az sK.o aU)).mono ?_;rintro e y ⟨g,lb,⟨lQ,dE,fM⟩,rfl,aa,C,k⟩;simp only[ae.val];refine oT t aU aa λj=>?_;clear t K;have B:M (H w4)<=M (H w4):=(Qn _);have D:=Io.of (aa.block _ Io.lt);have av:=jZ (P:=V) (w0:=w0) (w:=w4) (y:=y) (R:=M (H w4)) (g:=g) (lb:=lb) (c:=⟨lQ,dE,fM⟩) (X:=XR) j B D C (λW h0 hW=>k W h0 (Kept.mono hW λb _ h=>⟨by have h':=h;omega,by have h':=h;omega⟩));obtain⟨kE,gE,m⟩:=av;obtain⟨z0,z1⟩:=D.k2;have y0:=D.frozen 0;have y1:=D.frozen 1;have Wh:=λ(a:Addr) (c:Array X3) (w:U)=>run_store V w a (.func (.func g) #[] c) .plain rfl;obtain⟨q9,zn⟩:=aJ m gE;clear m gE D k C;refine wR 9 λK t=>?_;go_simp;refine t.o _ _ q9.o.1 (λj=>?_);clear t K;refine wD ?_;try simp only[pU]
   go_wp2_with fail;go_meet;exact⟨M (H w4),g,lb,⟨lQ,dE,fM⟩,rfl,B,zn.o,q9.o⟩
 case rest=>
 obtain⟨br,g',bX,cw,rfl,bZ,cu,aA,bn,vX⟩:=hcut;obtain⟨w5,vT⟩:∃x,x=wc:=⟨_,rfl⟩;subst vT;have hcl:=(Kt.o w4 sK.o (Qy _ _)).2;obtain⟨bE,bG⟩:=aJ (aj.keep hcl aA.size λb hb dB=>aA.block b hb) (vX w5 (az sK.o aA) (Qy _ _)).2;obtain⟨w6,vY,wN,bH⟩:=aL w5 #[Z JV (N Ee) JW,cw.val] 22;have e6:=az aA wN;have bM:jk w6 (O (aD (M (H w5)) 0)) [⟨JV,JW,Ee⟩,cw]:=⟨by simp,λi hi=>⟨M (H w5),0,rfl,by
   match i,hi with
   |0,_=>exact bH.cell 0
   |1,_=>exact bH.cell 1⟩,λi hi=>by
   match i,hi with
   |0,_=>exact Qo wN bE.o.1
   |1,_=>exact Qo wN bG.o.1⟩
 have bz:Calls V 171 #[Z (O (aD (M (H w5)) 0)) 2 2] w6 _:=zY (O (aD (M (H w5)) 0)) 2 [⟨JV,JW,Ee⟩,cw] w6 bM (by simp) (λi hi=>by
   match i,hi with
   |0,_=>exact bE.o.2.2
   |1,_=>exact bG.o.2.2) (by have h1:=bU.o.wide;have h2:=bV.o.wide;rw[<-Dv.o]at h1;rw[<-bn]at h2;simp[fE];omega)
 have bN:fE [⟨JV,JW,Ee⟩,cw]=XL.2++XR.2:=by rw[<-Dv.o,<-bn];simp[fE]
 rw[bN]at bz;obtain⟨dX,dY,jG,xJ,vR⟩:=J2 bn vX aA wN bZ;obtain⟨cz,cO⟩:=nH e6 f0 f1;have dD:=cB aA f1;obtain⟨q0,q1⟩:=cu.k2;obtain⟨cZ,df⟩:=nH wN q0 q1;obtain⟨di,dm,dn⟩:=cw;simp only[ae.val]at*;obtain⟨HG,wI,dZ⟩:=dQ (XK mZ (XK nS nT)) (XK fZ (XK iy (XK jd (XK iK (XK iL (XK je (XK jf (XK jR (XK jy (XK jA (XK dS (XK eP dU)))))))))))) (XK nQ (XK oW (XK pg (XK qV (XK qg (XK rZ sj))))));clear vX bn aA bZ cu wN bH bM hcl bN f0 f1 aI aK aM aN aO aP aQ fZ iy jd iK iL je jf jR jy jA dS eP dU mZ nS nT nQ oW pg qV qg rZ sj;go_wp2_with fail;refine bz.mono ?_;rintro e w7 ⟨v,rfl,dw,mO⟩;obtain⟨iv,rfl,dx,dz,dA⟩:=iC dw (by have h1:=bU.o.wide;have h2:=bV.o.wide;simp;omega);have ax:=az (az jG.o xJ.o) mO;have aH:=az oJ.o ax;have hJ:=bK.o w7.drew g g' lb bX ⟨JV,JW,Ee⟩ ⟨di,dm,dn⟩ (az ay.o (aH.drew)) Dv.o dX.o (Qo ((az xJ.o mO).drew) bE.o.1) (Qo ((az xJ.o mO).drew) bG.o.1);simp only[ae.val]at hJ;obtain⟨fZ,iy,jd,iK,iL,je,jf,jR,jy,jA,dS,eP,dU⟩:=wI.o;obtain⟨mZ,nS,nT⟩:=HG.o;obtain⟨nQ,oW,pg,qV,qg,rZ,sj⟩:=dZ.o;obtain⟨u0,u1,u2,u3⟩:=alA mO cz cO cZ df;obtain⟨fZ,iy,jd,iK,iL,je,jf,jR⟩:=wK ax fZ iy jd iK iL je jf jR;obtain⟨jy,jA,dS,eP,dU,mZ,nS,nT⟩:=wK ax jy jA dS eP dU mZ nS nT;have nQ:=cB ax nQ;obtain⟨oW,pg,qV,qg,rZ,sj⟩:=JY ax oW pg qV qg rZ sj;obtain⟨JU,UU,UN,ed,FH,ek⟩:=MP (show bl≠M (H w2)/\br≠M (H w2) by have:=dW.o;have:=vR.o;have:=oJ.o.size;have:=Q.o.2.2.2;omega) dx dz dA ax mO;clear dx dz dA dw mO ax cz cO dD q0 q1 cZ df bz;go_upto_region 12 with fail;refine Qv (S:=λx=>Kept (λb=>b≠M (H w2)) w7 x) (by kernel_rfl) (QB ((Qm _ _).drew) λ_ h _=>h) (λj=>?_);refine wT 0 (FL #[v0,v1,v2,v3,v4,v5,v6,v7,v8,v9,ag,ak,au,Z (O (aD nb no)) (N pl) pc,Z pa (N ps) pac,vd]) j (λx A=>?_) ?_
 .have e0:=amP A Q.o.2.1 fZ iy jd iK iL je jf jR jy jA dS eP dU;have e1:=Q0 mZ A Q.o.2.1;have e2:=Q0 nS A Q.o.2.1;have e3:=Q0 nT A Q.o.2.1;go_simp
 refine wT 1 (FL #[v0,v1,v2,v3,v4,v5,v6,v7,v8,v9,ag,ak,au,Z (O (aD nb no)) (N pl) pc,Z pa (N ps) pac,vd]) j (λx A=>?_) ?_
 .have e0:=amP A Q.o.2.1 fZ iy jd iK iL je jf jR jy jA dS eP dU;have e1:=Q0 mZ A Q.o.2.1;have e2:=Q0 nS A Q.o.2.1;have e3:=Q0 nT A Q.o.2.1;go_simp
 refine wT 2 (FL #[I J nk,I J (li:Int),I J (ri:Int),I J ns,Z bC (N aV) bD,I J key,Z dO (N dR) dP]) j (λx A=>?_) ?_
 .have e0:=Q0 nQ A Q.o.2.2.1;have e1:=Q0 oW A Q.o.2.2.1;have e2:=Q0 pg A Q.o.2.2.1;have e3:=Q0 qV A Q.o.2.2.1;have e4:=Q0 qg A Q.o.2.2.1;have e5:=Q0 rZ A Q.o.2.2.1;have e6:=Q0 sj A Q.o.2.2.1;go_simp
 refine wT 3 (FL #[.func (.func g) #[] lb,Z JV (N Ee) JW]) j (λx A=>?_) ?_
 .have e0:=Q0 u0 A JU.o.1;have e1:=Q0 u1 A JU.o.1;go_simp
 refine wT 4 (FL #[.func (.func g') #[] bX,Z di (N dn) dm]) j (λx A=>?_) ?_
 .have e0:=Q0 u2 A JU.o.2;have e1:=Q0 u3 A JU.o.2;go_simp
 obtain⟨aB,aC,G⟩:=iv;simp only[ae.val]at*;refine wt 6 (Z aB (N G) aC) j ?_;refine wt 8 (Y (O (aD (M (H w1)) 4))) j ?_;refine wtk 9 (Z bC (N aV) bD) j qg Q.o.2.2.1 ?_;refine wR 5 λK t=>?_;go_simp;refine hJ.mono ?_;rintro e w8 ⟨v,rfl,H5,eu⟩;refine oK t j H5 λj=>?_;clear t K hJ;have L:Bw w7 w8:=(Qm _ _).drew.trans H5;have bO:∀W,Bw w0 W->Nw w3 w8 W->dh aj V v (si nk (XL.2.idxOf K1) (XR.2.idxOf K2) XL.1 XR.1) W:=λW h0 hN=>by have hz:=oJ.o.size;have dF:=FH.o.size;have bQ:=hN.back L;exact eu W (hN.more (Qz hz (Qz dF (by simp)))) (Kt.o W h0 (bQ.back FH.o)).1 (dY.o W h0 ((bQ.back (az xJ.o ek.o)).more hz)).1
 obtain⟨g2,aS,rfl⟩:∃g2 aS,v=.func (.func g2) #[] aS:=by obtain⟨g2,aS,h,_⟩:=bO w8 (az ay.o (az aH L)) (Qy _ _);exact⟨g2,aS,h⟩
 refine wt 7 (FL #[.func (.func g2) #[] aS,Z aB (N G) aC]) j ?_;have SH:=Sg #[v0,v1,v2,v3,v4,v5,v6,v7,v8,v9,ag,ak,au,Z (O (aD nb no)) (N pl) pc,Z pa (N ps) pac,vd] q.gI q.bP q.wh Ii.o g2 aS ⟨aB,aC,G⟩ ⟨bC,bD,aV⟩ (si nk (XL.2.idxOf K1) (XR.2.idxOf K2) XL.1 XR.1) Nq w8 (HF.o.below (az ay.o (az aH L))).query.wh (Qo L UN.o.1) (Qo (az ay.o (az aH L)) Al.o) bg.o.few bg.o.num (λi hi x A=>by show x∈G;rw[UU.o];exact bg.o.gU i hi x A) H3.o dM.o (λr hr=>by show N r=N G;rw[UU.o];exact bg.o.lens r hr);simp only[ae.val]at SH;refine wR 10 λK t=>?_;go_simp;refine SH.mono ?_;rintro e w9 ⟨g3,bI,rfl,JP,eB⟩;refine oK t j JP λj=>?_;clear t K SH;have SG:ae.xs ⟨aB,aC,G⟩=X.2:=by rw[HX.o];exact UU.o
 have Gh:=az (az aH L) JP;have vX:∀W,Bw w0 W->Kept (λb=>M (H w)<=b/\b≠M (H w2)) w9 W->dh aj V (.func (.func g3) #[] bI) X.1 W/\aj.At ⟨aB,aC,G⟩ W:=λW h0 hW=>by
  have hz:=Q.o;have hN:=hW.afB hz.1 hz.2.2.2;have dG:=(az aH L).size;refine⟨?_,aj.keep UN.o ((hN.back JP).back L).size λb hb dB=>((hN.back JP).back L).block b hb ?_⟩
  .have h:=eB W (hN.more dG) (bO W h0 (hN.back JP));rw[HX.o];rw[show jq q.wh (XL.2++XR.2) aV=jq q.wh G aV by rw[UU.o]];exact h
  .have h1:=ed.o b dB;have h2:=oJ.o.size;have h3:=jG.o.size;have h4:=xJ.o.size;omega
 have g5:=Dz.o.of (Gh.block _ Dz.o.lt);obtain⟨kE,gE,m⟩:=jZ (P:=V) (w0:=w0) (w:=w) (y:=w9) (g:=g3) (lb:=bI) (c:=⟨aB,aC,G⟩) (X:=X) (az Sv.o Gh) Q.o.1 g5 SG vX;obtain⟨q9,JR⟩:=aJ m (xE gE);obtain⟨z0,z1⟩:=g5.k2;have y0:=g5.frozen 0;have y1:=g5.frozen 1;have Wh:=λ(a:Addr) (c:Array X3) (w:U)=>run_store V w a (.func (.func g3) #[] c) .plain rfl;clear m gE g5 SG vX Gh;refine wR 11 λK t=>?_;go_simp;refine t.o _ _ (j.trans kE) (λj=>?_);clear t K;refine wD ?_;try simp only[pU]
 go_wp2_with fail;exact Zw (kL (p:=4) rfl rfl JR.o) rfl ⟨g3,bI,⟨aB,aC,G⟩,rfl,q9.o⟩
structure Oo(f:aF)(ts:List ah)(q:af)(po:Option Addr)(pl:List ai)(pa:Option Addr)(ps:List aG)(d:Option Addr)(db:List aP)(w:U):Prop where
 ok:Ok ts q
 five:N q.src.xs<=5
 three:∀i,i<N q.wh->(E q.wh i lz).cs.length<=3
 conds:∀i,i<N q.wh->∀d∈(E q.wh i lz).cs,fV d (ak ts q.src.xs)=T
 facts:f.At ts q w
 nodes:fP w po pl
 parts:bY w pa ps
 amT:N ps=N pl
 known:GD ts q pl (ps.map aG.d)
 data:uG w d db
 ayk:N db=N ts
 Wx:zC ts db=T
 many:gL q.src.xs db<=20000
theorem Oo.aO{f:aF}{ts:List ah}{q:af}{po:Option Addr}{pl:List ai}{pa:Option Addr}{ps:List aG}{d:Option Addr}{db:List aP}(h:Oo f ts q po pl pa ps d db w){i:Nat}{v:dX}(hi:i<N pl)(hv:dw ts q pl i=O v):(E ps i bF).sources=aO v.sources/\aY (N q.src.xs) v.sources:=by
 have a:i<N ps:=by rw[h.amT];exact hi
 obtain⟨u,g,b,_⟩:=h.known i (by rw[Zm];exact a);rw[hv]at g;cases g;have e:E (ps.map aG.d) i pz=(E ps i bF).d:=by simp[List.getD,a]
 rw[e]at b;exact⟨b.sources,b.gB⟩
theorem Cx{f:aF}{ts:List ah}{q:af}{po:Option Addr}{pc:Nat}{pl:List ai}{pa:Option Addr}{pac:Nat}{ps:List aG}{d:Option Addr}{dc:Nat}{db:List aP}{w0:U}(Hq:Oo f ts q po pl pa ps d db w0):∀(Fq i:Nat) (v:dX),i<Fq->i<N pl->dw ts q pl i=O v->v.out=false->∀w,Bw w0 w->
  Calls V 114 #[FL (jK f ts q (Z po (N pl) pc) (Z pa (N ps) pac) (Z d (N db) dc)),FL (E pl i nz).cells] w (qh V w0 (bI ts q pl db Fq i) w)
 |0,_,_,h,_,_,_=>by omega
 |Fq+1,i,v,hi,hil,hv,hout=>λw hw=>by
  have ok:=Hq.ok;obtain⟨-,-,-,-,-,-,-,-,-,-,X,aa⟩:=Hq.nodes.2 i hil;rcases iV ts q pl hv with⟨P,h0,hs,es,eo,_⟩|⟨k2,k10,k3,k4,k5,hl0,Kg,l,hl,hn⟩|⟨k3,k5,hl0,Kg,A,hri,l,r,hl,hr,hn⟩
  .obtain⟨s,aj⟩:∃s:Nat,(E pl i nz).source=(s:Int):=⟨_,(ZX h0).symm⟩
   have D:s<N q.src.xs:=by omega
   have z:=Ql ok.src (k:=s) D;have e:E q.src.xs s 0=q.src.xs[s]:=by simp[List.getD,D]
   obtain⟨t,ak⟩:∃t:Nat,E q.src.xs s 0=(t:Int):=⟨q.src.xs[s].toNat,by omega⟩;have ef:bI ts q pl db (Fq+1) i=(fu db (t:Int),fw ts q.src.xs (s:Int)):=by unfold bI;grind
   rw[ef];exact acs f ts q _ _ d dc db (E pl i nz) s t w0 w hw Hq.facts Hq.data P aj D ak (by rw[Hq.ayk];omega)
  .obtain⟨_,ho,_,g,m,es,eo,nD,_⟩:=XM ts q hn;rw[Hm]at g;rw[hout]at nD;have h6:¬7<=(E pl i nz).kind:=λh=>by grind
   have u:l.out=false:=by
    cases e:l.out with
    |false=>rfl
    |true=>have:=ho.1 e;omega
   have Q:=jQ ok pl Hq.Wx Fq (E pl i nz).l.toNat l (by omega) hl u;have hL:=λx p=>Cx (pc:=pc) (pac:=pac) (dc:=dc) Hq Fq (E pl i nz).l.toNat l (by omega) (by omega) hl u x p;have A:=Q.aaA ok Hq.five Hq.many;refine acu f ts q ok po pc pl pa pac ps _ (E pl i nz) (E pl i nz).l.toNat w0 w _ hw Hq.facts Hq.nodes Hq.parts Hq.amT X aa (by omega) (by omega) Hq.three Hq.conds _ _ hL (λP=>⟨?_,?_⟩) (λP=>?_) (by omega)
   .conv=>lhs;unfold bI
    rw[ZU (by omega),Zt P]
   .have y:=jH ok g;exact⟨Qz (Ip g) ok.wm,λj G=>(y j G).1,λj G x p=>(Q.cols x).2 ((y j G).2 x p),Q.lens⟩
   .unfold oF at m;rw[ZU (by omega),ZU (by omega),Zt P]at m;simp only[Qj,Qk,ZW]at m;obtain⟨⟨C,au⟩,av⟩:=m;have hW:=yE ok;have ag:∀c∈(E pl i nz).co.xs,c∈(bI ts q pl db Fq (E pl i nz).l.toNat).2:=λc hc=>(Q.cols c).2 (by
     unfold aS at C;grind)
    have hp:iR (E pl i nz)=true:=by
     cases e:iR (E pl i nz) with
     |true=>rfl
     |false=>rw[yt ts q pl i rfl e]at hv;cases hv
    unfold iR at hp;rw[ZW]at hp;refine⟨?_,ag,by have:=hp.2.2.2.2.2.1 P;omega,?_,A.1,A.2.1,Q.lens,A.2.2⟩
    .conv=>lhs;unfold bI
     grind
    .exact afI ok Hq.five C au
  .obtain⟨ae,ho,ax,g,m,es,eo,nD,_⟩:=XM ts q hn;have u:l.out=false:=by grind
   have K:=jQ ok pl Hq.Wx Fq (E pl i nz).l.toNat l (by omega) hl u;have L:=jQ ok pl Hq.Wx Fq (E pl i nz).r.toNat r (by omega) hr ae;have hL:=λx p=>Cx (pc:=pc) (pac:=pac) (dc:=dc) Hq Fq (E pl i nz).l.toNat l (by omega) (by omega) hl u x p;have hR:=λx p=>Cx (pc:=pc) (pac:=pac) (dc:=dc) Hq Fq (E pl i nz).r.toNat r (by omega) (by omega) hr ae x p;have l0:=K.aaA ok Hq.five Hq.many;have r0:=L.aaA ok Hq.five Hq.many;have B:=SI (plan:=pl) (n:=E pl i nz) ok hl hr k3 k5 m K L;have y:=jH ok g;have R:=Hq.aO (show (E pl i nz).l.toNat<N pl by omega) hl;have S:=Hq.aO (show (E pl i nz).r.toNat<N pl by omega) hr;refine acv f ts q ok po pc pl pa pac ps _ (E pl i nz) (E pl i nz).l.toNat (E pl i nz).r.toNat w0 w _ hw Hq.facts Hq.nodes Hq.parts Hq.amT X aa (by omega) (by omega) (by omega) (by omega) Hq.three Hq.conds _ _ hL _ hR k3 k5 (keyOf ts q pl (E pl i nz)).1 (keyOf ts q pl (E pl i nz)).2.1 (λh3=>?_) ⟨l0.1,l0.2.1,K.lens,l0.2.2⟩ ⟨r0.1,r0.2.1,L.lens,r0.2.2⟩ ?_ ⟨Qz (Ip g) ok.wm,λj G=>(y j G).1,λj G x p=>?_,λx p=>?_⟩
   .obtain⟨c1,c2,c3,c4⟩:=afH ok (show (E pl i nz).kind=4∨(E pl i nz).kind=5 by omega) m g K L;have ek:keyOf ts q pl (E pl i nz)=kS ts q.src.xs (E q.wh (E pl i nz).key.toNat lz).cs l.sources r.sources:=by unfold keyOf;rw[hl,hr];rfl
    have z:=PX ok (E pl i nz) R.2 S.2 g;have W:=z.2 (by rw[z.1,Qx c1,c2];rfl);rw[R.1,S.1,W,ek];exact⟨_,rfl,c3,c4⟩
   .conv=>lhs;unfold bI
    rw[ZU (by omega),ZU (by omega),ZU (by omega)];unfold si;unfold bA at B;rw[B]
   .have z:=(y j G).2 x p;rcases ZT.1 z.2.2 with W|W
    .exact List.mem_append_left _ ((K.cols x).2 ⟨z.1,z.2.1,W⟩)
    .exact List.mem_append_right _ ((L.cols x).2 ⟨z.1,z.2.1,W⟩)
   .unfold si at p;unfold bA at B;rw[B]at p;obtain⟨a,ha,b,hb,rfl⟩:=SQ p;rw[Zn,Zn,K.lens a ha,L.lens b hb]
