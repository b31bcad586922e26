import Derived.Test.YtjndadibondgbaaGreatDoorL34
set_option linter.all false
set_option maxRecDepth 100000
set_option maxHeartbeats 16000000
namespace Go.Proofs.Zz
open Go.RowKit Go.Shelf
variable {kc sc:List Int}
structure LD(f:aS)(ts:List af)(q:ae)(po:Option Addr)(pl:List ah)(pa:Option Addr)(ps:List aB)(d:Option Addr)(db:List aN)(w:World):Prop where
 ok:Ok ts q
 five:q.src.xs.length<=5
 three:∀ i,i<q.wh.length->(q.wh.getD i lz).cs.length<=3
 conds:∀ i,i<q.wh.length->∀ d∈(q.wh.getD i lz).cs,df d (ai ts q.src.xs)=true
 facts:f.At ts q w
 nodes:fq w po pl
 parts:PartsAt w pa ps
 aki:ps.length=pl.length
 known:Dt ts q pl (ps.map aB.d)
 data:qi w d db
 auk:db.length=ts.length
 Y9:tJ ts db=true
 many:gm q.src.xs db<=20000
theorem LD.aL{f:aS}{ts:List af}{q:ae}{po:Option Addr}{pl:List ah}{pa:Option Addr}{ps:List aB}{d:Option Addr}{db:List aN}{w:World}(h:LD f ts q po pl pa ps d db w){i:Nat}{v:dY}(hi:i<pl.length)(hv:dn ts q pl i=some v):(ps.getD i aT).sources=aL v.sources/\aP q.src.xs.length v.sources:=by
 have a:i<ps.length:=by rw[h.aki]; exact hi
 obtain⟨u,g,b,_⟩:=h.known i (by rw[ZB]; exact a);rw[hv]at g
 cases g
 have e:(ps.map aB.d).getD i pz=(ps.getD i aT).d:=by simp[List.getD,a]
 rw[e]at b;exact⟨b.sources,b.fQ⟩
theorem zQ{f:aS}{ts:List af}{q:ae}{po:Option Addr}{pc:Nat}{pl:List ah}{pa:Option Addr}{pac:Nat}{ps:List aB}{d:Option Addr}{dc:Nat}{db:List aN}{w0:World}(H:LD f ts q po pl pa ps d db w0):∀ (F i:Nat) (v:dY),i<F->i<pl.length->dn ts q pl i=some v->v.out=false->∀ w,Bw w0 w->
  Calls Tryz.prog 83 #[.agg (iM f ts q (.slice po pl.length pc) (.slice pa ps.length pac) (.slice d db.length dc)),.agg (pl.getD i nz).cells] w (mK Tryz.prog w0 (bL ts q pl db F i) w)
 | 0,_,_,h,_,_,_ => by omega
 | F+1,i,v,hi,hil,hv,hout => fun w hw => by
  have ok:=H.ok;obtain⟨-,-,-,-,-,-,-,-,-,-,N,O⟩:=H.nodes.2 i hil;rcases jw ts q pl hv with⟨C,h0,hs,es,eo,_⟩ | ⟨k2,k10,k3,k4,k5,hl0,FZ,l,hl,hn⟩ | ⟨k3,k5,hl0,FZ,A,hri,l,r,hl,hr,hn⟩
  ·obtain⟨s,P⟩:∃ s:Nat,(pl.getD i nz).source=(s:Int):=⟨_,(Xj h0).symm⟩
   have D:s<q.src.xs.length:=by omega
   have z:=Qq ok.src (k:=s) D;have e:q.src.xs.getD s 0=q.src.xs[s]:=by simp[List.getD,D]
   obtain⟨t,Q⟩:∃ t:Nat,q.src.xs.getD s 0=(t:Int):=⟨q.src.xs[s].toNat,by omega⟩
   have ef:bL ts q pl db (F+1) i=(eQ db (t:Int),eD ts q.src.xs (s:Int)):=by
    unfold bL;rw[Qu C,P,ZY,Q]
   rw[ef];exact Y5 f ts q _ _ d dc db (pl.getD i nz) s t w0 w hw H.facts H.data C P D Q (by rw[H.auk]; omega)
  ·obtain⟨_,Y,_,g,m,es,eo,S,_⟩:=X9 ts q hn;rw[D7]at g;rw[hout]at S;have h6:¬ 7<=(pl.getD i nz).kind:=fun h=>by rw[Qy h]at S; cases S
   have u:l.out=false:=by
    cases e:l.out with
    | false => rfl
    | true => have:=Y.1 e; omega
   have J:=ko ok pl H.Y9 F (pl.getD i nz).l.toNat l (by omega) hl u;have T:=fun x p=>zQ (pc:=pc) (pac:=pac) (dc:=dc) H F (pl.getD i nz).l.toNat l (by omega) (by omega) hl u x p
   have A:=J.Vg ok H.five H.many;refine Y6 f ts q ok po pc pl pa pac ps _ (pl.getD i nz) (pl.getD i nz).l.toNat w0 w _ hw H.facts H.nodes H.parts H.aki N O (by omega) (by omega) H.three H.conds _ _ T (fun C=>⟨?_,?_⟩) (fun C=>?_) (by omega)
   ·conv=>lhs; unfold bL
    rw[Qv (by omega),Qu C]
   ·have y:=gN ok g;exact⟨QS (D8 g) ok.oM,fun j E=>(y j E).1,fun j E x p=>(J.cols x).2 ((y j E).2 x p),J.lens⟩
   ·unfold mY at m;rw[Qv (by omega),Qv (by omega),Qu C]at m;simp only[Qo,Qp,QE]at m;obtain⟨⟨o,Z⟩,aa⟩:=m;have hW:=vE ok;have U:∀ c∈(pl.getD i nz).co.xs,c∈(bL ts q pl db F (pl.getD i nz).l.toNat).2:=fun c hc=>(J.cols c).2 (by
     unfold aM at o;rw[Qp]at o;have:=o c hc;simp only[Qo,QE]at this;exact⟨this.1,by omega,aa c hc⟩)
    have V:fP (pl.getD i nz)=true:=by
     cases e:fP (pl.getD i nz) with
     | true => rfl
     | false => rw[vo ts q pl i rfl e]at hv; cases hv
    unfold fP at V;rw[QE]at V;refine⟨?_,U,by have:=V.2.2.2.2.2.1 C; omega,?_,A.1,A.2.1,J.lens,A.2.2⟩
    ·conv=>lhs; unfold bL
     rw[Qv (by omega),Qv (by omega),Qu C]
    ·exact ab7 ok H.five o Z
  ·obtain⟨R,Y,ag,g,m,es,eo,S,_⟩:=X9 ts q hn;have u:l.out=false:=by
    cases e:l.out with
    | false => rfl
    | true => have:=Y.1 e; omega
   have G:=ko ok pl H.Y9 F (pl.getD i nz).l.toNat l (by omega) hl u;have I:=ko ok pl H.Y9 F (pl.getD i nz).r.toNat r (by omega) hr R;have T:=fun x p=>zQ (pc:=pc) (pac:=pac) (dc:=dc) H F (pl.getD i nz).l.toNat l (by omega) (by omega) hl u x p
   have hR:=fun x p=>zQ (pc:=pc) (pac:=pac) (dc:=dc) H F (pl.getD i nz).r.toNat r (by omega) (by omega) hr R x p
   have W:=G.Vg ok H.five H.many;have X:=I.Vg ok H.five H.many;have B:=NQ (plan:=pl) (n:=pl.getD i nz) ok hl hr k3 k5 m G I;have y:=gN ok g;have K:=H.aL (show (pl.getD i nz).l.toNat<pl.length by omega) hl;have L:=H.aL (show (pl.getD i nz).r.toNat<pl.length by omega) hr;refine Y7 f ts q ok po pc pl pa pac ps _ (pl.getD i nz) (pl.getD i nz).l.toNat (pl.getD i nz).r.toNat w0 w _ hw H.facts H.nodes H.parts H.aki N O (by omega) (by omega) (by omega) (by omega) H.three H.conds _ _ T _ hR k3 k5 (keyOf ts q pl (pl.getD i nz)).1 (keyOf ts q pl (pl.getD i nz)).2.1 (fun h3=>?_) ⟨W.1,W.2.1,G.lens,W.2.2⟩ ⟨X.1,X.2.1,I.lens,X.2.2⟩ ?_ ⟨QS (D8 g) ok.oM,fun j E=>(y j E).1,fun j E x p=>?_,fun x p=>?_⟩
   ·obtain⟨c1,c2,c3,c4⟩:=ab6 ok (show (pl.getD i nz).kind=4∨(pl.getD i nz).kind=5 by omega) m g G I;have ek:keyOf ts q pl (pl.getD i nz)=eP ts q.src.xs (q.wh.getD (pl.getD i nz).key.toNat lz).cs l.sources r.sources:=by
     unfold keyOf;rw[hl,hr];rfl
    have z:=Dr ok (pl.getD i nz) K.2 L.2 g;have M:=z.2 (by rw[z.1,Qy c1,c2]; rfl);rw[K.1,L.1,M,ek];exact⟨_,rfl,c3,c4⟩
   ·conv=>lhs; unfold bL
    rw[Qv (by omega),Qv (by omega),Qv (by omega)];unfold oC;unfold aQ at B;rw[B]
   ·have z:=(y j E).2 x p;rcases Xh.1 z.2.2 with M | M
    ·exact List.mem_append_left _ ((G.cols x).2 ⟨z.1,z.2.1,M⟩)
    ·exact List.mem_append_right _ ((I.cols x).2 ⟨z.1,z.2.1,M⟩)
   ·unfold oC at p;unfold aQ at B;rw[B]at p;obtain⟨a,ha,b,hb,rfl⟩:=NR p;rw[ZC,ZC,G.lens a ha,I.lens b hb]
theorem O7(e:TypeId)(lo:Nat):Li (lK e lo):=⟨fun _=>rfl,fun _=>rfl,fun _=>rfl,fun h=>h.1.1⟩
theorem EK(vi:Value)(c:aa)(rows:List (List Int))(w:World)(hi:nE Tryz.prog 3 vi rows w)(hc:c.At w)(h0:0<c.xs.length)(hlen:rows.length<=1000000)(hin:∀ r∈rows,aM c.xs r.length=true) :
  Calls Tryz.prog 80 #[vi,c.val] w fun e w'=>∃ v,e=.returned v/\nE Tryz.prog 3 v (eU c.xs rows) w'/\Bw w w':=by
 obtain⟨i,j,rfl,s,k⟩:=hi;have d:=bV w (.cells #[.func (.func i) #[] j] 87);have f:=bV (w.alloc (.cells #[.func (.func i) #[] j] 87)) (.cells #[c.val] 22);have g:=d.trans (f.mono d.size);have m:∀ a,c.ad=some a->a.block<((w.alloc (.cells #[.func (.func i) #[] j] 87)).alloc (.cells #[c.val] 22)).heap.size:=fun a t=>by
  obtain⟨b,off,e,l⟩:=Qe hc h0;rw[t]at e
  cases e
  exact QT (lt_of_cell (l 0 h0)) g.size
 have n:nE Tryz.prog 3 (.func (.func 115) #[] #[.pointer (some (aD w.heap.size 0)),.pointer (some (aD (w.heap.size+1) 0))]) (eU c.xs rows) ((w.alloc (.cells #[.func (.func i) #[] j] 87)).alloc (.cells #[c.val] 22)):=
  ⟨_,_,rfl,Jl Tryz.func115 (by kernel_rfl) rfl,OT (O7 3 _) w.heap.size (w.heap.size+1) i j c rows _ (by simp; omega) (by simp) (by simp) (by simp) (Qt g hc) m (Seq.renew k g) s hlen hin⟩
 obtain⟨u,y,z⟩:=c;unfold aa.val at *;simp only at *;have p:Hid _:=n;have q:Hid _:=g;clear n g d f k hc hlen hin m;go_enter Tryz.func80,Tryz.ntmps80;go_wp2;go_ret;exact⟨_,rfl,p.o,q.o⟩
theorem Gw(vi:Value)(c:aa)(rows:List (List Int))(w:World)(hi:nE Tryz.prog 3 vi rows w)(hc:c.At w)(hlen:rows.length<=1000000)(hin:∀ r∈rows,aM c.xs r.length=true) :
  Calls Tryz.prog 50 #[vi,c.val] w fun e w'=>∃ v,e=.returned v/\nE Tryz.prog 3 v (eU c.xs rows) w'/\Bw w w':=by
 by_cases f:c.xs=[]
 ·rw[f,Sa];obtain⟨j,k,rfl,_,_⟩:=id hi;obtain⟨l,m,g⟩:=c;simp only at f;subst f;refine(Gf j k l m w).mono ?_;rintro e w' ⟨rfl,rfl⟩;exact⟨_,rfl,hi,Qr _ _⟩
 ·have d:0<c.xs.length:=List.length_pos_iff.2 f;have a:=EK vi c rows w hi hc d hlen hin;obtain⟨j,k,rfl,_,_⟩:=id hi;obtain⟨l,m,g⟩:=c;unfold aa.val at *;simp only at *;have s:=hc.1;have n:((g.length:Int)==0)=false:=by
   have:¬ (g.length:Int)=0:=by omega
   simpa using this
  clear hi hc hlen hin f;go_enter Tryz.func50,Tryz.ntmps50;go_wp2_with fail;refine a.mono ?_;rintro e t ⟨v,rfl,b,i⟩;have p:Hid _:=b;obtain⟨u,q,rfl,_,_⟩:=id b;clear b a;go_wp2;go_ret;exact⟨_,rfl,p.o,i⟩
theorem O8(q:ae)(d:Option Addr)(pE:Nat)(db:List aN)(O9:List (List Int))(w:World)(hq:q.At w)(lF:qi w d db)(h1:0<q.src.xs.length)(h5:q.src.xs.length<=5)(hcp:q.src.xs.length<=q.src.cap)(ha:aM q.src.xs db.length=true)
  (hrow:∀ t,∀ r∈eQ db t,r.length<=100) (hlen:∀ t,(eQ db t).length<=1000000)
  (hcs:∀ r∈aW q.src.xs db,∀ i,i<q.wh.length->∀ k,k<(q.wh.getD i lz).cs.length->df ((q.wh.getD i lz).cs.getD k cz) r.length=true)
  (hout:∀ H W,Bw w W->dw ag Tryz.prog H ((aW q.src.xs db).filter (dK q.wh)) W->Calls Tryz.prog 51 #[H,.agg q.cells] W fun e w'=>∃ v,e=.returned v/\nE Tryz.prog 3 v O9 w'/\Bw W w')
  (hol:O9.length<=1000000) (hoi:∀ r∈O9,aM q.ord.xs r.length=true) :
  Calls Tryz.prog 30 #[.agg q.cells,.slice d db.length pE] w fun e w'=>∃ v,e=.returned v/\nE Tryz.prog 3 v (eU q.ord.xs O9) w'/\Bw w w':=by
 have G:=bV w (.cells q.cells 26);have l:=AX q.src d pE db _ (Qt G hq.src) (lF.below G) h1 h5 hcp ha hrow hlen;have I:Hid _:=hq;have y:Hid _:=G;have S:Hid _:=hcs;obtain⟨a,g⟩:=eX (w.alloc (.cells q.cells 26))
 have T:a.cell? (aD w.heap.size 1)=some (.slice q.bE q.wh.length q.aF):=by rw[<- g]; unfold ae.cells; simp
 have HX:Hid (a.cell? (aD w.heap.size 0)=some q.src.val/\a.cell? (aD w.heap.size 1)=some (.slice q.bE q.wh.length q.aF)/\a.cell? (aD w.heap.size 2)=some (.bool q.group)/\a.cell? (aD w.heap.size 3)=some q.keys.val/\a.cell? (aD w.heap.size 4)=some q.sums.val/\a.cell? (aD w.heap.size 5)=some q.aK.val/\a.cell? (aD w.heap.size 6)=some q.ord.val):=by
  rw[<- g]; unfold ae.cells; refine⟨?_,?_,?_,?_,?_,?_,?_⟩ <;> simp
 rw[g]at y l;have z:Hid _:=hout;have U:q.ord.At a:=Qt y.o I.o.ord;have J:Hid (∀ v W,Bw a W->nE Tryz.prog 3 v O9 W->Calls Tryz.prog 50 #[v,q.ord.val] W fun e w'=>∃ v,e=.returned v/\nE Tryz.prog 3 v (eU q.ord.xs O9) w'/\Bw W w'):=
  fun v W u hv=>Gw v q.ord O9 W hv (Qt u U) hol hoi
 clear G lF h1 h5 hcp ha hrow hlen hcs hq hout hol hoi U;have A:bX a q.bE q.wh:=I.o.wh.below y.o;have V:Hid (∀ W x,Bw a W->aa.At x W->x.xs∈aW q.src.xs db->Calls Tryz.prog 48 (#[x.val] ++ #[.pointer (some (aD w.heap.size 0))]) W fun e W'=>e=.returned (.bool (dK q.wh x.xs))/\Bw W W'):=fun W x u P Q=>
  acy q w.heap.size x.ad x.cap x.xs W (cB u T) P (A.below u) (S.o _ Q)
 clear A T;generalize aW q.src.xs db=rows at *;generalize eU q.ord.xs O9=res at *;generalize R:dK q.wh=p at *;obtain⟨⟨lQ,fA,src⟩,bE,aF,wh,M,Z,af,⟨FE,pG,FH⟩,⟨oO,gF,oP⟩⟩:=q;unfold ae.cells aa.val at *;simp only at *;clear R;obtain⟨c0,c1,c2,c3,c4,c5,c6⟩:=HX.o;have ah:=g;go_enter Tryz.func30,Tryz.ntmps30;go_wp2_with fail;refine l.mono ?_;rintro e w2 ⟨vc,rfl,n,b⟩;have B:=Ox vc 48 #[.pointer (some (aD w.heap.size 0))] rows p w2 n (Jl Tryz.func48 (by kernel_rfl) rfl) (fun W x u P Q=>V.o W x (b.trans (u.mono b.size)) P Q);obtain⟨g2,ai,rfl,_,_⟩:=id n;clear n l;go_wp2_with fail;refine B.mono ?_;rintro e s ⟨H,rfl,N,D⟩;clear B;have f:Bw a s:=b.trans (D.mono b.size);have d0:=cB f c0;have d1:=cB f c1;have d2:=cB f c2;have d3:=cB f c3;have d4:=cB f c4;have d5:=cB f c5;have d6:=cB f c6;have C:Bw s s.drew:=(Qr _ _).drew;have m:Bw w s.drew:=(y.o.trans (f.mono y.o.size)).drew;have K:=z.o H s.drew m (N.later C);obtain⟨g3,aj,rfl,_,_⟩:=id N;have X:Hid (Bw w s.drew):=m;have Y:Hid (Bw a s.drew):=f.drew;clear m;clear N f C b D z V S I c0 c1 c2 c3 c4 c5 c6;go_wp2;go_region_with (first | (refine K.mono ?_; rintro e w4 ⟨v4,rfl,E,j⟩; have e6:=cB j d6; have L:=J.o v4 w4 (Y.o.trans (j.mono Y.o.size)) E; obtain⟨g4,ak,rfl,_,_⟩:=E) | (refine L.mono ?_; rintro e w5 ⟨v5,rfl,F,O⟩; have OV:Hid _:=F; obtain⟨g5,au,rfl,_,_⟩:=F))
 all_goals
  go_wp2;go_ret;exact⟨_,rfl,OV.o,X.o.trans ((j.trans (O.mono j.size)).mono X.o.size)⟩
theorem Ul{a:List Gr}{row:List Int}(h:∀ g∈a,g.key.length=kc.length/\g.ss.length=sc.length):∀ g∈stepG kc sc a row,g.key.length=kc.length/\g.ss.length=sc.length:=by
 intro g b;unfold stepG at b;split at b
 ·obtain⟨j,e,rfl⟩:=Qx b;rw[Jf]at e;rw[XN];have d:=h _ (Qk e);split
  ·exact⟨d.1,by show (jV a[j].ss row sc).length=_; rw[kJ]; exact d.2⟩
  ·exact d
 ·rcases Zx.1 b with b | b
  ·exact h g b
  ·rw[Zw]at b;subst b;exact⟨by simp[rO,oV,au],by simp[rO,oV,kJ]⟩
theorem EX{kc sc:List Int}:∀ (rows:List (List Int)) (a:List Gr),(∀ g∈a,g.key.length=kc.length/\g.ss.length=sc.length)->∀ g∈rows.foldl (stepG kc sc) a,g.key.length=kc.length/\g.ss.length=sc.length
 | [],a,h => by simpa using h
 | r::l,a,h => by
  rw[Z0];exact EX l _ (Ul h)
theorem LZ{rows:List (List Int)}:∀ g∈fu kc sc rows,g.row.length=kc.length+1+sc.length:=by
 intro g a;unfold fu at a;have:=EX rows (eu kc sc) (fun g a=>by
  unfold eu at a;split at a
  ·rename_i hk
   rw[Zw]at a;subst a;exact⟨by rw[hk]; rfl,by simp[oV]⟩
  ·simp at a) g a
 unfold Gr.row;rw[ZC,ZC,this.1,this.2];rfl
theorem sG(q:ae)(rows:List (List Int)):∀ r∈jE q rows,(r.length:Int)=oQ q.group q.keys.xs q.sums.xs q.aK.xs:=by
 intro r b;unfold jE at b;unfold oQ;split at b
 ·rename_i a
  rw[Qu a];obtain⟨g,a,rfl⟩:=ZU.1 b;rw[LZ g a];omega
 ·rename_i a
  rw[Qv a];obtain⟨x,_,rfl⟩:=ZU.1 b;simp[au]
theorem uN(q:ae)(rows:List (List Int)):(jE q rows).length<=1+rows.length:=by
 unfold jE;split
 ·rw[ZB]; exact Pj _ _ _
 ·rw[ZB]; omega
theorem JN(co d:Option Addr)(cc pE:Nat)(ts:List af)(q:ae)(db:List aN)(w:World)(hts:bu w co ts)(hq:q.At w)(hkc:q.keys.xs.length<=q.keys.cap)(hoc:q.ord.xs.length<=q.ord.cap)(hsc:q.src.xs.length<=q.src.cap)(lF:qi w d db)
  (lC:q.check ts=0) (hdat:nW ts q.src.xs db=true) :
  Calls Tryz.prog 15 #[.slice co ts.length cc,.agg q.cells,.slice d db.length pE] w fun e w'=>∃ (v:Value) (ys:List aa) (o:Nat->Prop) (G:World),e=.returned (.tuple #[v,.int .i64 0])/\ys.map aa.xs=l7 q db/\
   eO (lK 3 G.heap.size) G.heap.size G 22 ys o w' v/\Bw w G:=by
 obtain⟨p1,p2,X,p4,p5,F⟩:=mM lC;have H:=yA p2;have g:(db.length=ts.length/\tJ ts db=true)/\gm q.src.xs db<=20000:=by
  unfold nW at hdat;simp only[Qo,QE]at hdat;exact hdat
 have p:=Uk (src:=q.src.xs) g.1.2;have Q:=sF q.src.xs db;have a:aM q.aK.xs (ai ts q.src.xs)=true/\aM q.keys.xs (ai ts q.src.xs)=true/\aM q.sums.xs (ai ts q.src.xs)=true/\aM q.ord.xs (oQ q.group q.keys.xs q.sums.xs q.aK.xs)=true:=by
  unfold sK at F;simp only[Qo]at F;exact⟨F.1.1.1.1.1.1.1,F.1.1.1.1.1.1.2,F.1.1.1.1.1.2,F.1.1.1.1.2⟩
 have l:∀ r∈aW q.src.xs db,∀ v∈r,dC v:=LY g.1.2 q.src.xs;have B:∀ t,∀ r∈eQ db t,r.length<=100:=fun t r j=>by
  obtain⟨h1,h2⟩:=EU g.1.2 t r j;have:=(kR p1 (i:=t.toNat) (by omega)).2;omega
 have C:∀ t,(eQ db t).length<=1000000:=fun t=>by
  rw[EF];have:=Kj g.1.2 t.toNat;omega
 have R:((aW q.src.xs db).filter (dK q.wh)).length<=20000:=by
  have:=XQ (dK q.wh) (aW q.src.xs db);have:=g.2;omega
 have D:(jE q ((aW q.src.xs db).filter (dK q.wh))).length<=1000000:=by
  have:=uN q ((aW q.src.xs db).filter (dK q.wh));omega
 have s:∀ r∈(aW q.src.xs db).filter (dK q.wh),r∈aW q.src.xs db:=fun r j=>(Xl.1 j).1
 have u:=bV w (.cells q.cells 26);have z:=ES co cc ts q _ (hts.below u) (hq.below u) hkc hoc;rw[lC]at z;obtain⟨w0,A⟩:=eX (w.alloc (.cells q.cells 26))
 have HX:Hid (w0.cell? (aD w.heap.size 0)=some q.src.val/\w0.cell? (aD w.heap.size 1)=some (.slice q.bE q.wh.length q.aF)/\w0.cell? (aD w.heap.size 2)=some (.bool q.group)/\w0.cell? (aD w.heap.size 3)=some q.keys.val/\w0.cell? (aD w.heap.size 4)=some q.sums.val/\w0.cell? (aD w.heap.size 5)=some q.aK.val/\w0.cell? (aD w.heap.size 6)=some q.ord.val):=by
  rw[<- A]; unfold ae.cells; refine⟨?_,?_,?_,?_,?_,?_,?_⟩ <;> simp
 rw[A]at z u;have m:=fun (x:World) (n:Bw w x)=>xw co cc ts q d pE db x (hts.below n) (Qt n hq.src) (lF.1.below n) X H.1
 rw[Qu hdat]at m;have I:=fun (x:World) (n:Bw w x)=>O8 q d pE db (jE q ((aW q.src.xs db).filter (dK q.wh))) x (hq.below n) (lF.below n) p4 H.1 hsc (by rw[g.1.1]; exact X) B C (fun r j i hi k hk=>by rw[p r j]; exact zR p5 hi hk)
  (fun vf W hW hv=>by
   unfold jE;by_cases P:q.group=true
   ·rw[Qu P];exact LH vf q _ W P hv (Qt (n.trans (hW.mono n.size)) hq.keys) (Qt (n.trans (hW.mono n.size)) hq.sums) H.2.2.2.1 H.2.2.2.2.1 (by omega) (fun r j=>by rw[p r (s r j)]; exact a.2.1) (fun r j=>by rw[p r (s r j)]; exact a.2.2.1) (fun r j=>l r (s r j))
   ·rw[Qv P];exact LG vf q _ W (by simpa using P) hv (Qt (n.trans (hW.mono n.size)) hq.aK) (by have:=H.2.2.1; omega) (fun r j=>by rw[p r (s r j)]; exact a.1))
  D (fun r j=>by rw[sG q _ r j]; exact a.2.2.2)
 have VS:Hid ((l7 q db).length<=1000000):=by
  show (l7 q db).length<=1000000
  unfold l7;rw[Ij];exact D
 have S:Hid (∀ x,Bw w x->Calls Tryz.prog 30 #[.agg q.cells,.slice d db.length pE] x fun e w'=>∃ v,e=.returned v/\nE Tryz.prog 3 v (l7 q db) w'/\Bw x w'):=I;have T:Hid _:=m;have J:Hid _:=u;have U:Hid _:=A;clear m I D u A hts hq hkc hoc hsc lF lC hdat p1 p2 X p4 p5 F H g p Q a l B C s R;generalize l7 q db=rows at *;obtain⟨⟨lQ,fA,fH⟩,bE,aF,wh,Y,ak,au,⟨FE,pG,FH⟩,⟨oO,gF,oP⟩⟩:=q;unfold ae.cells aa.val at *;simp only at *;obtain⟨c0,c1,c2,c3,c4,c5,c6⟩:=HX.o;go_enter Tryz.func15,Tryz.ntmps15;go_wp2_with fail;rw[U.o];refine z.mono ?_;rintro e G ⟨rfl,b⟩;have E:Bw w G:=J.o.trans (b.mono J.o.size);have d0:=cB b c0;have d1:=cB b c1;have d2:=cB b c2;have d3:=cB b c3;have d4:=cB b c4;have d5:=cB b c5;have d6:=cB b c6;have m:=T.o G E;clear z c0 c1 c2 c3 c4 c5 c6;go_wp2_with fail;refine Jj m ?_;rintro e w2 ⟨rfl,f⟩;have y:Bw w w2:=E.trans (f.mono E.size);have e0:=cB f d0;have e1:=cB f d1;have e2:=cB f d2;have e3:=cB f d3;have e4:=cB f d4;have e5:=cB f d5;have e6:=cB f d6;have I:=S.o w2 y;clear m d0 d1 d2 d3 d4 d5 d6;go_wp2_with fail;refine Jj I ?_;rintro e L ⟨v,rfl,Z,ag⟩;have V:Bw w L:=y.trans (ag.mono y.size);obtain⟨g3,ah,rfl,M,N⟩:=Z;have K:=nQ (lK 3 L.heap.size) (fun _=>rfl) g3 ah rows L L (Qr _ _) VS.o N M;clear I e0 e1 e2 e3 e4 e5 e6 N M;go_wp2_with fail;refine K.mono ?_;rintro e w4 ⟨v4,ys,o4,rfl,aj,O⟩;obtain⟨va,vn,vc,rfl⟩:=Zr O.own;clear K;go_wp2;go_ret2;exact⟨_,ys,o4,L,rfl,aj,O,V⟩
