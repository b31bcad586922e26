import Derived.Test.YtlpbelhfpoilpaaGreatDoorRE07
import Derived.Test.YtlpbelhfpoilpaaGreatDoorRE24
set_option linter.all false
set_option maxRecDepth 100000
set_option maxHeartbeats 16000000
namespace Go.Proofs.Zz
open Go.RowKit Go.Shelf
variable {F:Nat->Prop} {W0 w w' w0:World} {a base gb i:Nat} {v v':Value} {f:au} {ts:List af} {q:ae} {T Tp:TypeId} {A:Nat->Nat} {os:List ah} {g:List aj} {t:aQ} {bs:List (Nat × aQ)}
structure IntsIn(F:Nat->Prop)(w:World)(iv:ah):Prop where
 at':iv.At w
 inf:oq F iv.ad iv.xs.length
 nil:iv.ad=none->iv.cap=0
 cap:iv.xs.length<=iv.cap
theorem IntsIn.aX{F:Nat->Prop}{w w':World}{iv:ah}(h:IntsIn F w iv)(hk:Kept F w w'):IntsIn F w' iv:=⟨Xe h.at' hk h.inf,h.inf,h.nil,h.cap⟩
theorem IntsIn.below{F:Nat->Prop}{w w':World}{iv:ah}(h:IntsIn F w iv)(hb:Bw w w'):IntsIn F w' iv:=⟨Qv hb h.at',h.inf,h.nil,h.cap⟩
theorem IntsIn.fC(F:Nat->Prop)(w:World):IntsIn F w fC:=⟨jd w,oq.nil _ _,fun _=>rfl,Qx _⟩
theorem IntsIn.mono{F G:Nat->Prop}{w:World}{iv:ah}(h:IntsIn F w iv)(hs:∀ b,b<w.heap.size->F b->G b):IntsIn G w iv:=⟨h.at',oq.mono h.at'.2 h.inf hs,h.nil,h.cap⟩
theorem qV{e:TypeId}{n:Nat}{xs:List Int}(h:w.ownsRow base e 1 v n (xs.map (Value.int .i64)))(hl:xs.length<=1000000)(hF:∀ b,base<=b->F b) :
  ∃ iv:ah,v=iv.val/\iv.xs=xs/\IntsIn F w iv:=by
 obtain⟨iv,h1,h2,h3,h4,h5,h6⟩:=nH h hl;exact⟨iv,h1,h2,h3,fun _ a e=>hF _ (h4 a e),h5,h6⟩
def Cq(F:Nat->Prop)(w:World)(xs:List Int)(e:Ending)(w':World):Prop:=∃ iv:ah,e=.returned iv.val/\iv.xs=xs/\IntsIn F w' iv/\Bw w w'
theorem Env.Yu(E:Env f ts q W0):(aM q).length<=4:=by
 unfold aM;split
 ·exact E.akF
 ·split
  ·unfold jg;rw[Zc];exact E.few
  ·simp
theorem Env.Yv(E:Env f ts q W0)(h:Fz F W0 w):IntsIn F w q.keys:=
 ⟨h.below.ints E.facts.query.keys,fun hn a e=>h.low _ (by
  obtain⟨b,off,e2,hc⟩:=E.facts.query.keys.2 0 hn;rw[e]at e2;injection e2 with e2;rw[e2];exact⟨_,_,hc⟩),E.akG,E.eO⟩
theorem xP(E:Env f ts q W0)(hz:Fz F W0 w):Calls Tryz.prog 230 #[.agg q.cells] w (Cq F w (aM q)):=by
 have hq:=(E.at' hz).query
 cases hg:q.group with
 | true =>
  have HR:Hid (aM q=q.keys.xs):=by show _=_; unfold aM; rw[Qy hg]
  have HK:=Zh (E.Yv hz);generalize aM q=R at *;obtain⟨⟨sa,sc,sx⟩,bY,aI,wh,group,⟨ka,kc,kx⟩,⟨ma,mc,mx⟩,⟨la,lc,lx⟩,⟨oa,oc,ox⟩⟩:=q;simp only[ae.cells,ah.val]at *;subst hg;obtain⟨w1,hw1,hb1,hg1⟩:=aU w #[.slice sa sx.length sc,.slice bY wh.length aI,.bool true,.slice ka kx.length kc,.slice ma mx.length mc,.slice la lx.length lc,.slice oa ox.length oc] 26;obtain⟨a0,a1,a2,a3,a4,a5,a6⟩:=hg1.k7;have HB1:=Zh hb1;go_enter Tryz.func230,Tryz.ntmps230;go_wp2;go_ret;exact⟨⟨ka,kc,kx⟩,rfl,HR.o.symm,HK.o.below HB1.o,HB1.o⟩
 | false =>
  have nG:Hid (∀ x,Bw w x->Calls Tryz.prog 209 #[.agg q.cells] x fun e w'=>∃ v,e=.returned v/\w'.ownsRow x.heap.size 3 1 v (jg q).length ((jg q).map (Value.int .i64))/\Bw x w'):=fun x hx=>nP q x (hq.below hx) (E.ord hg) (by have:=E.few; omega)
  have HR:Hid (aM q=if di (jg q)=true then jg q else []):=by show _=_; unfold aM; rw[Qz (by rw[hg]; decide)]
  have JU:Hid ((jg q).length<=4):=by show _<=_; unfold jg; rw[Zc]; exact E.few
  have xQ:=Zh hz.high;generalize aM q=R at *;generalize jg q=WN at *;obtain⟨⟨sa,sc,sx⟩,bY,aI,wh,group,⟨ka,kc,kx⟩,⟨ma,mc,mx⟩,⟨la,lc,lx⟩,⟨oa,oc,ox⟩⟩:=q;simp only[ae.cells,ah.val]at *;subst hg;obtain⟨w1,hw1,hb1,hg1⟩:=aU w #[.slice sa sx.length sc,.slice bY wh.length aI,.bool false,.slice ka kx.length kc,.slice ma mx.length mc,.slice la lx.length lc,.slice oa ox.length oc] 26;obtain⟨a0,a1,a2,a3,a4,a5,a6⟩:=hg1.k7;have HB1:=Zh hb1;have DX:=nG.o w1 hb1;go_enter Tryz.func230,Tryz.ntmps230;go_wp2_with fail;refine DX.mono ?_;rintro e w2 ⟨v,rfl,hv,hb2⟩;obtain⟨iv,rfl,hx,hin⟩:=qV (F:=F) hv (by have:=JU.o; omega) (fun b hb=>xQ.o b (Zl HB1.o.size hb));have HB2:=Zh (aA HB1.o hb2);have FH:=lV iv.ad iv.cap iv.xs w2 hin.at' hin.cap;have RZ:=Zh hin;rw[hx]at FH;have HX:=Zh hx
  cases hap:di WN with
  | true =>
   have HR2:Hid (R=WN):=by show _=_; rw[HR.o,Qy hap]
   rw[hap]at FH;obtain⟨ia,ic,ix⟩:=iv;simp only at hx;subst hx;simp only[ah.val]at *;go_wp2_with fail;refine FH.mono ?_;rintro e w3 ⟨rfl,hw3⟩;have hw3:=hw3.symm;subst hw3;go_wp2;go_ret;exact⟨⟨ia,ic,ix⟩,rfl,HR2.o.symm,RZ.o,HB2.o⟩
  | false =>
   have HR2:Hid (R=[]):=by show _=_; rw[HR.o,Qz (by rw[hap]; decide)]
   rw[hap]at FH;obtain⟨ia,ic,ix⟩:=iv;simp only at hx;subst hx;simp only[ah.val]at *;go_wp2_with fail;refine FH.mono ?_;rintro e w3 ⟨rfl,hw3⟩;have hw3:=hw3.symm;subst hw3;go_wp2;go_ret;exact⟨fC,rfl,HR2.o.symm,IntsIn.fC _ _,HB2.o⟩
theorem Kr(q:ae)(o:ah)(w:World)(hk:q.keys.At w)(ho:o.At w)(hoc:o.xs.length<=o.cap) :
  Cb 375 #[.agg q.cells,o.val] w (.int .i64 (df q o.xs)):=by
 cases hg:q.group with
 | false =>
  have hR:df q o.xs=9:=by unfold df; rw[Qy hg]
  rw[hR];generalize o.val=ov;obtain⟨⟨sa,sc,sx⟩,bY,aI,wh,group,⟨ka,kc,kx⟩,⟨ma,mc,mx⟩,⟨la,lc,lx⟩,⟨oa,oc,ox⟩⟩:=q;simp only[ae.cells,ah.val]at *;subst hg;obtain⟨w1,hw1,hb1,hg1⟩:=aU w #[.slice sa sx.length sc,.slice bY wh.length aI,.bool false,.slice ka kx.length kc,.slice ma mx.length mc,.slice la lx.length lc,.slice oa ox.length oc] 26;obtain⟨a0,a1,a2,a3,a4,a5,a6⟩:=hg1.k7;have HB1:=Zh hb1;go_enter Tryz.func375,Tryz.ntmps375;go_wp2;go_ret;exact⟨rfl,HB1.o⟩
 | true =>
  have hR:df q o.xs=if aP o.xs q.keys.xs=true then 8 else 7:=by unfold df; rw[Qz (by rw[hg]; decide)]
  rw[hR];have jk:Hid (∀ x,Bw w x->Cb 205 #[.slice o.ad o.xs.length o.cap,.slice q.keys.ad q.keys.xs.length q.keys.cap] x (.bool (aP o.xs q.keys.xs))):=fun x hx=>jI o.ad q.keys.ad o.cap q.keys.cap o.xs q.keys.xs x (Qv hx ho) (Qv hx hk) hoc
  obtain⟨ia,ic,ix⟩:=o;obtain⟨⟨sa,sc,sx⟩,bY,aI,wh,group,⟨ka,kc,kx⟩,⟨ma,mc,mx⟩,⟨la,lc,lx⟩,⟨oa,oc,ox⟩⟩:=q;simp only[ae.cells,ah.val]at *;subst hg;obtain⟨w1,hw1,hb1,hg1⟩:=aU w #[.slice sa sx.length sc,.slice bY wh.length aI,.bool true,.slice ka kx.length kc,.slice ma mx.length mc,.slice la lx.length lc,.slice oa ox.length oc] 26;obtain⟨a0,a1,a2,a3,a4,a5,a6⟩:=hg1.k7;have HB1:=Zh hb1;have hBE:=jk.o w1 hb1;generalize aP ix kx=B at *;go_enter Tryz.func375,Tryz.ntmps375;go_wp2_with fail;refine hBE.mono ?_;rintro e w2 ⟨rfl,hb2⟩;have HB2:=Zh (aA HB1.o hb2)
  cases B with
  | true =>
   go_wp2;go_ret;exact⟨rfl,HB2.o⟩
  | false =>
   go_wp2;go_ret;exact⟨rfl,HB2.o⟩
def GV(A:Nat->Nat):Option (Nat × aQ)->Value
 | none => .pointer none
 | some x => .pointer (some (aD (A x.1) 0))
def oh:aj:=([],none)
structure bz(T Tp:TypeId)(F:Nat->Prop)(w:World)(gb:Nat)(A:Nat->Nat)(os:List ah)(g:List aj):Prop where
 blk:∃ c,GB w gb Tp c/\∀ i,i<g.length->c[i*2]? = some (os.getD i fC).val/\c[i*2+1]? = some (GV A (g.getD i oh).2)
 ord:∀ i,i<g.length->(os.getD i fC).xs=(g.getD i oh).1/\IntsIn F w (os.getD i fC)/\(os.getD i fC).xs.length<=1000
 tree:∀ p∈g,∀ x,p.2=some x->aG T F w (A x.1) x.2
 inj:∀ p∈g,∀ p'∈g,∀ x x',p.2=some x->p'.2=some x'->A x.1=A x'.1->x.1=x'.1
theorem bz.aX{T Tp:TypeId}{F:Nat->Prop}{w w':World}{gb:Nat}{A:Nat->Nat}{os:List ah}{g:List aj}(h:bz T Tp F w gb A os g)(hk:Kept (fun b=>F b∨b=gb) w w'):bz T Tp F w' gb A os g:=by
 obtain⟨c,hc,hi⟩:=h.blk;have hkF:=hk.mono fun b _ h=>.inl h
 exact⟨⟨c,hc.keep hk (.inr rfl),hi⟩,fun i hi=>⟨(h.ord i hi).1,(h.ord i hi).2.1.aX hkF,(h.ord i hi).2.2⟩,fun p hp x hx=>(h.tree p hp x hx).aX hkF,h.inj⟩
theorem bz.below{T Tp:TypeId}{F:Nat->Prop}{w w':World}{gb:Nat}{A:Nat->Nat}{os:List ah}{g:List aj}(h:bz T Tp F w gb A os g)(hb:Bw w w'):bz T Tp F w' gb A os g:=h.aX (Zo hb fun _ h _=>h)
theorem bz.mono{T Tp:TypeId}{F G:Nat->Prop}{w:World}{gb:Nat}{A:Nat->Nat}{os:List ah}{g:List aj}(h:bz T Tp F w gb A os g)(hs:∀ b,b<w.heap.size->F b->G b):bz T Tp G w gb A os g:=
 ⟨h.blk,fun i hi=>⟨(h.ord i hi).1,(h.ord i hi).2.1.mono hs,(h.ord i hi).2.2⟩,fun p hp x hx=>(h.tree p hp x hx).mono hs,h.inj⟩
theorem bz.cells(h:bz T Tp F w gb A os g)(hi:i<g.length) :
  w.cell? (aD gb (i*2))=some (os.getD i fC).val/\w.cell? (aD gb (i*2+1))=some (GV A (g.getD i oh).2):=by
 obtain⟨c,hc,hcc⟩:=h.blk;exact⟨(hc.cell _).trans (hcc i hi).1,(hc.cell _).trans (hcc i hi).2⟩
theorem lW(hi:i<g.length):g.getD i oh∈g:=by
 rw[XH,ZX hi];exact Qp hi
theorem aG.blk(h:aG T F w a t):∃ c,w.heap[a]? = some (.cells c T (0,0)):=by
 obtain⟨p,n,bo,bc,bs,hb,_⟩:=h.get;exact⟨_,hb.gb⟩
theorem iR{α β:Type}(f:β->α->β)(b:β)(l:List α)(d:α){k:Nat}(hk:k<l.length):(l.take (k+1)).foldl f b=f ((l.take k).foldl f b) (l.getD k d):=by
 rw[XL l d hk,QZ];rfl
theorem Tryz.Uj:(Tryz.prog.info? 178).map (fun i=>i.size)=some 14:=by kernel_rfl
theorem Tryz.infoTree:∃ j,Tryz.prog.info? 178=some j/\j.size≠0:=by
 have h:=Tryz.Uj
 cases hi:Tryz.prog.info? 178 with
 | none => rw[hi]at h; cases h
 | some j =>
  rw[hi]at h;injection h with h;have h:j.size=14:=h;exact⟨j,rfl,by rw[h]; decide⟩
theorem GY(ao:Option Addr)(cap:Nat)(xs:List Nat)(v:Nat)(w:World)(hx:dB w ao xs)(hv:∃ c t,w.heap[v]? = some (.cells c t (0,0)))(hxs:∀ x∈xs,∃ c t,w.heap[x]? = some (.cells c t (0,0))) :
  Calls Tryz.prog 376 #[.slice ao xs.length cap,.pointer (some (aD v 0))] w fun e w'=>∃ r:Int,e=.returned (.int .i64 r)/\Hid (0<=r↔v∈xs)/\w' = w:=by
 have hl:=hx.1;have AJ:Hid (∀ x∈xs,(binOp .eql 172 (.pointer (some (aD v 0))) (.pointer (some (aD x 0)))).run Tryz.prog w=.ok (.bool (decide (v=x))) w):=fun x hm=>by
  obtain⟨j,hj,hj0⟩:=Tryz.infoTree;by_cases e:v=x
  ·subst e;rw[run_eql_ptr_same w (aD v 0) Tryz.underlying172 hj];simp
  ·obtain⟨cv,tv,hcv⟩:=hv;obtain⟨cx,tx,hcx⟩:=hxs x hm;rw[run_eql_ptr_other w Tryz.underlying172 hj hj0 (by intro h; injection h with h; exact e h) hcv hcx];simp[e]
 have HX:=Zh hx;clear hx hv hxs;go_enter Tryz.func376,Tryz.ntmps376;go_wp2;go_loop [8] (fun i=>∃ k:Nat,k<=xs.length/\i=.int .i64 k/\Hid (v ∉ xs.take k)) (fun i=>xs.length-(intOf i).toNat)
 case atStart=>exact⟨0,Q8 _,rfl,by show _ ∉ _; simp⟩
 case round=>
  obtain⟨k,hk,rfl,HN⟩:=hrel;by_cases hlt:k<xs.length
  ·obtain⟨b,off,rfl,hc⟩:=dB.get HX.o hlt;have h1:=hc k hlt;have hm:xs.getD k 0∈xs:=Z7 hlt;have HE:=AJ.o _ hm;have HT:=Zh (XL xs 0 hlt);have HG:=Zh hm;obtain⟨x,hxe⟩:=eY (xs.getD k 0)
   rw[<- hxe]at h1 HE HT HG;clear hc hm hxe;by_cases Uf:v=x
   ·have HV:=Zh Uf;rw[QD Uf]at HE;clear Uf;go_wp2;go_ret;exact⟨k,rfl,⟨fun _=>by rw[HV.o]; exact HG.o,fun _=>by omega⟩,rfl⟩
   ·have HV:Hid _:=Uf;rw[Ql Uf]at HE;clear Uf;go_wp2;go_round
    case rel=>exact⟨k+1,by omega,by go_num,by
     show _ ∉ _
     rw[HT.o,ZT,ZR];rintro (h | h)
     ·exact HN.o h
     ·exact HV.o h⟩
    case measure=>simp[intOf]; omega
  ·have e:xs.length=k:=by omega
   have HN2:Hid (v ∉ xs):=by
    have:=HN.o;rw[<- e,QA]at this;exact this
   go_wp2;go_ret;exact⟨-1,rfl,⟨fun h=>absurd h (by omega),fun h=>absurd h HN2.o⟩,rfl⟩
theorem AV(ao:Option Addr)(cap:Nat)(xs:List Nat)(v:Nat)(w:World)(hx:dB w ao xs)(hv:∃ c t,w.heap[v]? = some (.cells c t (0,0)))(hxs:∀ x∈xs,∃ c t,w.heap[x]? = some (.cells c t (0,0))) :
  Ce 350 #[.slice ao xs.length cap,.pointer (some (aD v 0))] w (.bool (decide (v∈xs))):=by
 have h:=GY ao cap xs v w hx hv hxs;clear hx hv hxs;go_enter Tryz.func350,Tryz.ntmps350;go_wp2_with fail;refine h.mono ?_;clear h;rintro e w2 ⟨r,rfl,HB,rfl⟩;go_wp2;go_ret;exact⟨Qg (by rw[QI,QJ,QJ]; exact HB.o),rfl⟩
theorem qW(h:bz 178 297 F w gb A os g)(h0:0<g.length)(gc:Nat) :
  Ce 348 #[.slice (some (aD gb 0)) g.length gc] w (GV A (g.getD 0 oh).2):=by
 obtain⟨-,c1⟩:=h.cells h0;clear h;rw[QP,QQ]at c1;generalize GV A (g.getD 0 oh).2=pv at *;go_enter Tryz.func348,Tryz.ntmps348;go_wp2;go_ret;exact⟨rfl,rfl⟩
theorem Cs(E:Env f ts q W0)(hz:Fz F W0 w)(a:Nat)(t:aQ)(ht:aG 178 F w a t)(hto:jB q t)(o:ah)(ho:o.At w)(hof:oq F o.ad o.xs.length)(hon:o.ad=none->o.cap=0)(hoc:o.xs.length<=o.cap)(hol:o.xs.length<=1000) :
  Calls Tryz.prog 346 #[.agg (f.cells ts q),.pointer (some (aD a 0)),o.val] w (bR 178 F w (bO ts q t o.xs)):=by
 obtain⟨v0,v1,v2,v3,v4,v5,v6,v7,v8,v9,v10,v11,v12,bB,-⟩:=Xu f ts q;have qp:Hid (∀ x b,Bw w x->x.cell? (aD b 0)=some (.pointer (some (aD a 0)))->Calls Tryz.prog 228 #[.agg #[v0,v1,v2,v3,v4,v5,v6,v7,v8,v9,v10,v11,v12],.agg #[.int .i64 6,.int .i64 0,.int .i64 0,.int .i64 0,.slice none 0 0,.int .i64 0,o.val],.slice (some (aD b 0)) 1 1] x (bR 178 F x (bO ts q t o.xs))):=fun x b hx hc=>by
  rw[<- bB];exact sM E (hz.next hx) ⟨6,0,0,0,fC,0,o⟩ ⟨jd x,oq.nil _ _,fun _=>rfl,Qv hx ho,hof,hon,hoc,Q8 _,hol⟩ a b t (ht.below hx) hto hc rfl (by decide:(2:Int)<=6) (by decide:(6:Int)<=10) (XI _)
 rw[bB];generalize bO ts q t o.xs=R at *;obtain⟨oa,oc,ox⟩:=o;simp only[ah.val]at *;obtain⟨w1,hw1,hb1,hg1⟩:=aU w #[v0,v1,v2,v3,v4,v5,v6,v7,v8,v9,v10,v11,v12] 90;obtain⟨a0,a1,a2,a3,a4,a5,a6,a7,a8,a9,iy,iL,a12⟩:=hg1.k13;obtain⟨w2,hw2⟩:∃ x,w1.alloc (.cells #[.pointer (some (aD a 0))] 172)=x:=⟨_,rfl⟩
 have hb2:Bw w w2:=aA hb1 (by rw[<- hw2]; exact dn _ _);have hGR:=qp.o w2 w1.heap.size hb2 (by rw[<- hw2]; simp);have HB2:=Zh hb2;go_enter Tryz.func346,Tryz.ntmps346;go_wp2_with fail;refine hGR.mono ?_;rintro e w3 ⟨r,rfl,hT,hr1,hr2,hb3⟩;have HP:Hid (bR 178 F w R (.returned (.pointer (some (aD r 0)))) w3):=⟨r,rfl,hT,Zl HB2.o.size hr1,hr2,aA HB2.o hb3⟩
 go_wp2;go_ret;exact HP.o
theorem xS(E:Env f ts q W0)(hz:Fz F W0 w)(a:Nat)(t:aQ)(ht:aG 178 F w a t)(hto:jB q t)(c:Nat)(hc:c<2 ^ q.wh.length)(hal:a<w.heap.size) :
  Calls Tryz.prog 229 #[.agg (f.cells ts q),.pointer (some (aD a 0)),.int .u64 (c:Int)] w fun e w'=>∃ r,e=.returned (.pointer (some (aD r 0)))/\aG 178 F w' r (bM ts q t c)/\(r=a∨w.heap.size<=r)/\r<w'.heap.size/\Bw w w':=by
 by_cases hc0:c=0
 ·subst hc0;have HT:Hid (aG 178 F w a (bM ts q t 0)):=by
   unfold bM;rw[Qy rfl];exact ht
  generalize bM ts q t 0=R at *;obtain⟨v0,v1,v2,v3,v4,v5,v6,v7,v8,v9,v10,v11,v12,bB,-⟩:=Xu f ts q;rw[bB];have Yy:=Zh hal;obtain⟨w1,hw1⟩:∃ x,w.alloc (.cells #[v0,v1,v2,v3,v4,v5,v6,v7,v8,v9,v10,v11,v12] 90)=x:=⟨_,rfl⟩
  have HB1:Hid (Bw w w1):=by show Below _ _ _; rw[<- hw1]; exact dn _ _
  go_enter Tryz.func229,Tryz.ntmps229;go_wp2;go_ret;exact⟨a,rfl,HT.o.below HB1.o,.inl rfl,Q6 Yy.o HB1.o.size,HB1.o⟩
 have hR:bM ts q t c=ay ts q (Bt (dG c)) [t]:=by unfold bM; rw[Qz hc0]
 have hcb:(((c:Nat):Int)==0)=false:=by
  rw[Bool.eq_false_iff];intro h;exact hc0 (by have:=eq_of_beq h; omega)
 rw[hR];have N7:c<18446744073709551616:=Q6 hc (Q7 (n:=2) (by omega) E.ok.mP);obtain⟨v0,v1,v2,v3,v4,v5,v6,v7,v8,v9,v10,v11,v12,bB,-⟩:=Xu f ts q;have DF:Hid (∀ x,Calls Tryz.prog 242 #[.int .u64 (c:Int)] x fun e w'=>∃ v,e=.returned v/\w'.ownsRow x.heap.size 3 1 v (dG c).length ((dG c).map (Value.int .i64))/\Bw x w'):=fun x=>Ci c N7 x
 have Um:Hid ((dG c).length<=64):=by
  show _<=_
  unfold dG aR;rw[Zc];exact Zl (List.length_filter_le _ _) (by simp)
 have qp:Hid (∀ x b (iv:ah),Bw w x->(iv.xs=dG c/\iv.At x/\oq F iv.ad iv.xs.length/\(iv.ad=none->iv.cap=0))->x.cell? (aD b 0)=some (.pointer (some (aD a 0)))->Calls Tryz.prog 228 #[.agg #[v0,v1,v2,v3,v4,v5,v6,v7,v8,v9,v10,v11,v12],.agg #[.int .i64 2,.int .i64 0,.int .i64 0,.int .i64 0,iv.val,.int .i64 0,.slice none 0 0],.slice (some (aD b 0)) 1 1] x (bR 178 F x (ay ts q (Bt (dG c)) [t]))):=fun x b iv hx hi hcell=>by
  rw[<- bB,<- hi.1];exact sM E (hz.next hx) ⟨2,0,0,0,iv,0,fC⟩ ⟨hi.2.1,hi.2.2.1,hi.2.2.2,jd x,oq.nil _ _,fun _=>rfl,Qx _,(by rw[hi.1]; have:=Um.o; omega),Q8 _⟩ a b t (ht.below hx) hto hcell rfl (by decide:(2:Int)<=2) (by decide:(2:Int)<=10) (by rw[hi.1]; exact qP hc)
 have xQ:=Zh hz.high;rw[bB];generalize ay ts q (Bt (dG c)) [t]=R at *;generalize dG c=L at *;obtain⟨w1,hw1,hb1,hg1⟩:=aU w #[v0,v1,v2,v3,v4,v5,v6,v7,v8,v9,v10,v11,v12] 90;obtain⟨a0,a1,a2,a3,a4,a5,a6,a7,a8,a9,iy,iL,a12⟩:=hg1.k13;have HB1:=Zh hb1;go_enter Tryz.func229,Tryz.ntmps229;go_wp2_with fail;refine wH w1 fun hS=>?_
 refine wT 0 (.agg #[v0,v1,v2,v3,v4,v5,v6,v7,v8,v9,v10,v11,v12]) hS (fun x hx=>?_) ?_
 ·have e0:=lI hx a0 a1 a2 a3 a4 a5 a6 a7 a8 a9 iy iL a12;go_simp
 refine wt 1 (.int .u64 (c:Int)) hS ?_;refine wt 4 (.pointer (some (aD a 0))) hS ?_;refine wJ 2 5 (fun K hK=>?_) fun K hK=>?_
 ·skip;go_simp;refine Xt (DF.o _) ?_;rintro e w4 ⟨v,rfl,hv,hb⟩;obtain⟨iv,qw,hxs,hat,hnew⟩:=nH hv (by have:=Um.o; omega);obtain⟨la,lc,lx⟩:=iv;simp only[ah.val]at qw hxs hat hnew;subst hxs;subst qw;have hS4:=hS.trans (hb.mono hS.size);have Yz:oq F la lx.length:=fun _ a' e=>xQ.o _ (Zl HB1.o.size (Zl hS.size (hnew.1 a' e)))
  refine hK.o _ _ hS4 fun hS=>?_
  refine wt 3 (.agg #[.int .i64 2,.int .i64 0,.int .i64 0,.int .i64 0,.slice la lx.length lc,.int .i64 0,.slice none 0 0]) hS ?_;refine wR 5 fun K hK=>?_
  go_simp;refine oA hK hS fun hS=>?_
  have hba:=dn w4 (.cells #[.pointer (some (aD a 0))] 172);have hSx:=hS.size;refine wR 6 fun K hK=>?_
  go_simp;refine Xt (qp.o _ _ ⟨la,lc,lx⟩ (aA HB1.o hS) ⟨rfl,Qv hba hat,Yz,hnew.2.1⟩ (by simp)) ?_;rintro e w5 ⟨r,rfl,hT,hr1,hr2,hb5⟩;refine oT hK hS hb5 fun hS=>?_
  refine wR 7 fun K hK=>?_
  go_simp;refine hK.o _ _ hS fun hS=>?_
  refine wD ?_
  try simp only[pV]
  have HP:Hid (∃ r',Ending.returned (.pointer (some (aD r 0)))=.returned (.pointer (some (aD r' 0)))/\aG 178 F w5 r' R/\(r' = a∨w.heap.size<=r')/\r'<w5.heap.size/\Bw w w5):=⟨r,rfl,hT,.inr (Zl HB1.o.size (Zl hSx hr1)),hr2,aA HB1.o hS⟩
  go_wp2;go_ret;exact HP.o
 ·skip;go_simp;refine oA hK hS fun hS=>?_
  refine wR 2 fun K hK=>?_
  go_simp;refine Xt (DF.o _) ?_;rintro e w4 ⟨v,rfl,hv,hb⟩;obtain⟨iv,qw,hxs,hat,hnew⟩:=nH hv (by have:=Um.o; omega);obtain⟨la,lc,lx⟩:=iv;simp only[ah.val]at qw hxs hat hnew;subst hxs;subst qw;have hS4:=hS.trans (hb.mono hS.size);have Yz:oq F la lx.length:=fun _ a' e=>xQ.o _ (Zl HB1.o.size (Zl hS.size (hnew.1 a' e)))
  have hcl:=cB hb (show _=some (Value.pointer (some (aD a 0))) from (Oo (l6 _ (.cells #[.pointer (some (aD a 0))] 172))));refine hK.o _ _ hS4 fun hS=>?_
  have hba:=Qw w4.heap.size w4;have hSx:=hS.size;refine wt 3 (.agg #[.int .i64 2,.int .i64 0,.int .i64 0,.int .i64 0,.slice la lx.length lc,.int .i64 0,.slice none 0 0]) hS ?_;refine wR 6 fun K hK=>?_
  go_simp;refine Xt (qp.o _ _ ⟨la,lc,lx⟩ (aA HB1.o hS) ⟨rfl,Qv hba hat,Yz,hnew.2.1⟩ (hcl)) ?_;rintro e w5 ⟨r,rfl,hT,hr1,hr2,hb5⟩;refine oT hK hS hb5 fun hS=>?_
  refine wR 7 fun K hK=>?_
  go_simp;refine hK.o _ _ hS fun hS=>?_
  refine wD ?_
  try simp only[pV]
  have HP:Hid (∃ r',Ending.returned (.pointer (some (aD r 0)))=.returned (.pointer (some (aD r' 0)))/\aG 178 F w5 r' R/\(r' = a∨w.heap.size<=r')/\r'<w5.heap.size/\Bw w w5):=⟨r,rfl,hT,.inr (Zl HB1.o.size (Zl hSx hr1)),hr2,aA HB1.o hS⟩
  go_wp2;go_ret;exact HP.o
theorem KF(E:Env f ts q W0)(hz:Fz F W0 w)(s:Int)(h0:0<=s)(h1:s<q.src.xs.length) :
  Calls Tryz.prog 241 #[.agg (f.cells ts q),.int .i64 s] w (bR 178 F w (dP ts q (aF ts q) s)):=by
 obtain⟨v0,v1,v2,v3,v4,v5,v6,v7,v8,v9,v10,v11,v12,bB,-⟩:=Xu f ts q;obtain⟨T0,hT0⟩:∃ t,t=ay ts q (iD s) []:=⟨_,rfl⟩
 have hok:jB q T0:=by rw[hT0]; exact lg ts q _ _ ⟨(by decide:(1:Int)<=1),(by decide:(1:Int)<=10)⟩ (fun _=>⟨h0,h1⟩) (XI _) (fun b hb=>by cases hb)
 have acr:T0.d.sources<18446744073709551616:=Q6 hok.src (Q7 (n:=2) (by omega) E.ok.small);have qp:Hid (∀ x,Bw w x->Calls Tryz.prog 228 #[.agg #[v0,v1,v2,v3,v4,v5,v6,v7,v8,v9,v10,v11,v12],.agg #[.int .i64 1,.int .i64 0,.int .i64 0,.int .i64 s,.slice none 0 0,.int .i64 0,.slice none 0 0],.slice none 0 0] x (bR 178 F x T0)):=fun x hx=>by
  rw[<- bB,hT0];exact FE E (hz.next hx) s h0 h1
 have HWI:Hid (∀ x,Bw w x->Cb 307 #[.agg #[v0,v1,v2,v3,v4,v5,v6,v7,v8,v9,v10,v11,v12],.int .u64 (T0.d.sources:Int)] x (.int .u64 ((aW (aF ts q) T0.d.sources:Nat):Int))):=fun x hx=>by
  rw[<- bB];exact Ad f ts q _ x E.ok ((E.at' hz).below hx) acr
 have Ut:Hid (∀ x r,Bw w x->aG 178 F x r T0->r<x.heap.size->Calls Tryz.prog 229 #[.agg #[v0,v1,v2,v3,v4,v5,v6,v7,v8,v9,v10,v11,v12],.pointer (some (aD r 0)),.int .u64 ((aW (aF ts q) T0.d.sources:Nat):Int)] x fun e w'=>∃ r',e=.returned (.pointer (some (aD r' 0)))/\aG 178 F w' r' (bM ts q T0 (aW (aF ts q) T0.d.sources))/\(r' = r∨x.heap.size<=r')/\r'<w'.heap.size/\Bw x w'):=fun x r hx hr hl=>by
  rw[<- bB];exact xS E (hz.next hx) r T0 hr hok _ (by have:=iQ (aF ts q) T0.d.sources (aF ts q).length; rw[Xa]at this; unfold aW; rw[Xa]; exact this) hl
 have hR:dP ts q (aF ts q) s=bM ts q T0 (aW (aF ts q) T0.d.sources):=by rw[hT0]; rfl
 rw[hR,bB];generalize bM ts q T0 (aW (aF ts q) T0.d.sources)=R at *;generalize aW (aF ts q) T0.d.sources=wi at *;obtain⟨w1,hw1,hb1,hg1⟩:=aU w #[v0,v1,v2,v3,v4,v5,v6,v7,v8,v9,v10,v11,v12] 90;obtain⟨a0,a1,a2,a3,a4,a5,a6,a7,a8,a9,iy,iL,a12⟩:=hg1.k13;have HB1:=Zh hb1;have hGR:=qp.o w1 hb1;go_enter Tryz.func241,Tryz.ntmps241;go_wp2_with fail;refine hGR.mono ?_;rintro e w2 ⟨r,rfl,hT,hr1,hr2,hb2⟩;have b0:=cB hb2 a0;have b1:=cB hb2 a1;have b2:=cB hb2 a2;have b3:=cB hb2 a3;have b4:=cB hb2 a4;have b5:=cB hb2 a5;have b6:=cB hb2 a6;have b7:=cB hb2 a7;have b8:=cB hb2 a8;have b9:=cB hb2 a9;have b10:=cB hb2 iy;have b11:=cB hb2 iL;have b12:=cB hb2 a12;obtain⟨p,hP,yQ⟩:=hT.lh;have p1:w2.cell? (aD r 1)=some (.int .u64 (T0.d.sources:Int)):=by
  have:=hP.c1;have e:p.sources=T0.d.sources:=congrArg bZ.sources yQ;rw[e]at this;exact this
 have HT:=Zh hT;have HR1:=Zh hr1;have HR2:=Zh hr2;have HB2:=Zh (aA HB1.o hb2);generalize T0.d.sources=sr at *;go_wp2_with fail;refine wH w2 fun hS=>?_
 refine wT 0 (.agg #[v0,v1,v2,v3,v4,v5,v6,v7,v8,v9,v10,v11,v12]) hS (fun x hx=>?_) ?_
 ·have e0:=lI hx b0 b1 b2 b3 b4 b5 b6 b7 b8 b9 b10 b11 b12;go_simp
 refine wt 1 (.pointer (some (aD r 0))) hS ?_;refine wT 2 (.agg #[v0,v1,v2,v3,v4,v5,v6,v7,v8,v9,v10,v11,v12]) hS (fun x hx=>?_) ?_
 ·have e0:=lI hx b0 b1 b2 b3 b4 b5 b6 b7 b8 b9 b10 b11 b12;go_simp
 refine wt 3 (.pointer (some (aD r 0))) hS ?_;refine wt 4 (.pointer (some (aD r 0))) hS ?_;refine wt 5 (.pointer (some (aD r 0))) hS ?_;refine wt 6 (.pointer (some (aD r 1))) hS ?_;refine lH 7 (.int .u64 (sr:Int)) hS p1 ?_;refine wR 8 fun K hK=>?_
 go_simp;refine Xt (HWI.o _ (aA HB2.o hS)) ?_;rintro e w3 ⟨rfl,hb⟩;refine oT hK hS hb fun hS=>?_
 refine wR 9 fun K hK=>?_
 go_simp;refine Xt (Ut.o _ r (aA HB2.o hS) (HT.o.below hS) (Q6 HR2.o hS.size)) ?_;rintro e w4 ⟨r',rfl,hT',hr',hl',hb⟩;have hsz:=hS.size;refine oT hK hS hb fun hS=>?_
 refine wR 10 fun K hK=>?_
 go_simp;refine hK.o _ _ hS fun hS=>?_
 refine wD ?_
 try simp only[pU]
 have hRR:w.heap.size<=r':=by
  rcases hr' with h | h
  ·rw[h]; exact Zl HB1.o.size HR1.o
  ·exact Zl HB2.o.size (Zl hsz h)
 have HP:Hid (bR 178 F w R (.returned (.pointer (some (aD r' 0)))) w4):=⟨r',rfl,hT',hRR,hl',aA HB2.o hS⟩
 go_wp2;go_ret;exact HP.o
theorem Uv(E:Env f ts q W0)(hz:Fz F W0 w)(a:Nat)(t:aQ)(ht:aG 178 F w a t)(hto:jB q t) :
  Calls Tryz.prog 345 #[.agg (f.cells ts q),.pointer (some (aD a 0))] w (bR 178 F w (gV ts q t)):=by
 obtain⟨v0,v1,v2,v3,v4,v5,v6,v7,v8,v9,v10,v11,v12,bB,hv0,hv1,hv2,hv3,hv4,hv5,hv6,-⟩:=Xu f ts q;have uW:q.cells=#[v0,v1,v2,v3,v4,v5,v6]:=by rw[hv0,hv1,hv2,hv3,hv4,hv5,hv6]; rfl
 clear hv0 hv1 hv2 hv3 hv4 hv5 hv6;obtain⟨K,hK⟩:∃ k,df q t.d.order=k:=⟨_,rfl⟩
 have hKb:=Cu q t.d.order;rw[hK]at hKb;obtain⟨T1,hT1⟩:∃ u,ay ts q (dI K) [t]=u:=⟨_,rfl⟩
 have hok1:jB q T1:=by rw[<- hT1]; exact Cv ts (by omega) (by omega) hto
 obtain⟨T2,Cw⟩:∃ u,ay ts q (dI 10) [T1]=u:=⟨_,rfl⟩
 have hR:gV ts q t=if jh q K t.d.order=true then T1 else T2:=by unfold gV; simp only; rw[hK,hT1,Cw]
 obtain⟨R,hRR⟩:=eY (gV ts q t)
 rw[<- hRR];have HRR:Hid (R=if jh q K t.d.order=true then T1 else T2):=by rw[<- hR]; exact hRR
 clear hRR;obtain⟨p,hP,yQ⟩:=ht.lh;have hpo:p.order.xs=t.d.order:=congrArg bZ.order yQ;have qU:Hid (∀ x b,Bw w x->x.cell? (aD b 0)=some (.pointer (some (aD a 0)))->Calls Tryz.prog 228 #[.agg #[v0,v1,v2,v3,v4,v5,v6,v7,v8,v9,v10,v11,v12],.agg #[.int .i64 K,.int .i64 0,.int .i64 0,.int .i64 0,.slice none 0 0,.int .i64 0,.slice none 0 0],.slice (some (aD b 0)) 1 1] x (bR 178 F x T1)):=fun x b hx hc=>by
  rw[<- bB,<- hT1];exact sM E (hz.next hx) ⟨K,0,0,0,fC,0,fC⟩ ⟨jd x,oq.nil _ _,fun _=>rfl,jd x,oq.nil _ _,fun _=>rfl,Qx _,Q8 _,Q8 _⟩ a b t (ht.below hx) hto hc (Uu (by show 6<=K; omega)) (by show 2<=K; omega) (by show K<=10; omega) (XI _)
 have HG2:Hid (∀ x b r,Bw w x->aG 178 F x r T1->x.cell? (aD b 0)=some (.pointer (some (aD r 0)))->Calls Tryz.prog 228 #[.agg #[v0,v1,v2,v3,v4,v5,v6,v7,v8,v9,v10,v11,v12],.agg #[.int .i64 10,.int .i64 0,.int .i64 0,.int .i64 0,.slice none 0 0,.int .i64 0,.slice none 0 0],.slice (some (aD b 0)) 1 1] x (bR 178 F x T2)):=fun x b r hx hr hc=>by
  rw[<- bB,<- Cw];exact sM E (hz.next hx) ⟨10,0,0,0,fC,0,fC⟩ ⟨jd x,oq.nil _ _,fun _=>rfl,jd x,oq.nil _ _,fun _=>rfl,Qx _,Q8 _,Q8 _⟩ r b T1 hr hok1 hc rfl (by decide:(2:Int)<=10) (by decide:(10:Int)<=10) (XI _)
 have HEK:Hid (∀ x,Bw w x->Cb 375 #[.agg #[v0,v1,v2,v3,v4,v5,v6],p.order.val] x (.int .i64 K)):=fun x hx=>by
  have:=Kr q p.order x ((E.Yv hz).below hx).at' (Qv hx hP.ok.order) hP.ok.cap;rw[uW,hpo,hK]at this;exact this
 have HEW:Hid (∀ x,Bw w x->Cb 133 #[.agg #[v0,v1,v2,v3,v4,v5,v6],.int .i64 K,p.order.val] x (.bool (jh q K t.d.order))):=fun x hx=>by
  have:=xD q K p.order.ad p.order.cap p.order.xs x ((E.at' hz).query.below hx) ⟨fun h9=>E.ord (by
   cases hg:q.group with
   | false => rfl
   | true =>
    rw[<- hK]at h9;unfold df at h9;rw[Qz (by rw[hg]; decide)]at h9;split at h9 <;> omega),by have:=E.few; omega⟩ (Qv hx hP.ok.order) hP.ok.cap
  rw[uW,hpo]at this;rw[<- hpo]at this;rw[<- hpo];exact this
 have p3:=hP.c3;rw[bB];clear bB uW hR hT1 Cw hok1 hP yQ hpo hK ht hto E hz;generalize jh q K t.d.order=EB at *;generalize p.order=po at *;obtain⟨oa,oc,ox⟩:=po;simp only[ah.val]at *;obtain⟨w1,hw1,hb1,hg1⟩:=aU w #[v0,v1,v2,v3,v4,v5,v6,v7,v8,v9,v10,v11,v12] 90;obtain⟨a0,a1,a2,a3,a4,a5,a6,a7,a8,a9,iy,iL,a12⟩:=hg1.k13;have HB1:=Zh hb1;have q3:=cB hb1 p3;clear hb1 hg1 p3;go_enter Tryz.func345,Tryz.ntmps345;go_wp2_with fail;clear hw1;refine wH w1 fun hS=>?_
 refine wt 0 (.pointer (some (aD w.heap.size 0))) hS ?_;refine wT 1 (.agg #[v0,v1,v2,v3,v4,v5,v6]) hS (fun x hx=>?_) ?_
 ·have e0:=IJ hx a0 a1 a2 a3 a4 a5 a6;go_simp
 refine wt 2 (.pointer (some (aD a 0))) hS ?_;refine wt 3 (.pointer (some (aD a 0))) hS ?_;refine wt 4 (.pointer (some (aD a 0))) hS ?_;refine wt 5 (.pointer (some (aD a 3))) hS ?_;refine lH 6 (.slice oa ox.length oc) hS q3 ?_;refine wR 7 fun K hK=>?_
 go_simp;refine Xt (HEK.o _ (aA HB1.o hS)) ?_;rintro e w2 ⟨rfl,hb⟩;refine oT hK hS hb fun hS=>?_
 clear hK K;refine wR 8 fun K hK=>?_
 go_simp;refine hK.o _ _ hS fun hS=>?_
 clear hK K;refine wD ?_
 try simp only[pU]
 have HB2:=Zh (aA HB1.o hS);have q3':=cB hS q3;have b0:=cB hS a0;have b1:=cB hS a1;have b2:=cB hS a2;have b3:=cB hS a3;have b4:=cB hS a4;have b5:=cB hS a5;have b6:=cB hS a6;have b7:=cB hS a7;have b8:=cB hS a8;have b9:=cB hS a9;have b10:=cB hS iy;have b11:=cB hS iL;have b12:=cB hS a12;clear a0 a1 a2 a3 a4 a5 a6 a7 a8 a9 iy iL a12;obtain⟨w3,hw3⟩:∃ x,w2.alloc (.cells #[.pointer (some (aD a 0))] 172)=x:=⟨_,rfl⟩
 have hb3:Bw w2 w3:=by rw[<- hw3]; exact dn _ _
 have hG1:=qU.o w3 w2.heap.size (aA HB2.o hb3) (by rw[<- hw3]; simp);have HB3:=Zh hb3;clear hb3 hS qU HEK q3;go_wp2_with fail;refine hG1.mono ?_;rintro e w4 ⟨r,rfl,hT,hr1,hr2,hb4⟩;have mo:=aA HB3.o hb4;have q3:=cB mo q3';have a0:=cB mo b0;have a1:=cB mo b1;have a2:=cB mo b2;have a3:=cB mo b3;have a4:=cB mo b4;have a5:=cB mo b5;have a6:=cB mo b6;have a7:=cB mo b7;have a8:=cB mo b8;have a9:=cB mo b9;have iy:=cB mo b10;have iL:=cB mo b11;have a12:=cB mo b12;clear b0 b1 b2 b3 b4 b5 b6 b7 b8 b9 b10 b11 b12;have mH:=Zh (aA HB2.o mo);have HT:=Zh hT;have HR1:=Zh (Zl HB2.o.size (Zl HB3.o.size hr1));have HR2:=Zh hr2;clear hT hr1 hr2 mo hb4 q3' hG1 hw3;go_wp2_with fail;refine wH w4 fun hS=>?_
 refine wt 0 (.pointer (some (aD w.heap.size 0))) hS ?_;refine wT 1 (.agg #[v0,v1,v2,v3,v4,v5,v6]) hS (fun x hx=>?_) ?_
 ·have e0:=IJ hx a0 a1 a2 a3 a4 a5 a6;go_simp
 refine wt 2 (.int .i64 K) hS ?_;refine wt 3 (.pointer (some (aD a 0))) hS ?_;refine wt 4 (.pointer (some (aD a 0))) hS ?_;refine wt 5 (.pointer (some (aD a 0))) hS ?_;refine wt 6 (.pointer (some (aD a 3))) hS ?_;refine lH 7 (.slice oa ox.length oc) hS q3 ?_;refine wR 8 fun K hK=>?_
 go_simp;refine Xt (HEW.o _ (aA mH.o hS)) ?_;rintro e w5 ⟨rfl,hb⟩;refine oT hK hS hb fun hS=>?_
 clear hK K;refine wD ?_
 try simp only[pU]
 have kF:=Zh (aA mH.o hS);have b0:=cB hS a0;have b1:=cB hS a1;have b2:=cB hS a2;have b3:=cB hS a3;have b4:=cB hS a4;have b5:=cB hS a5;have b6:=cB hS a6;have b7:=cB hS a7;have b8:=cB hS a8;have b9:=cB hS a9;have b10:=cB hS iy;have b11:=cB hS iL;have b12:=cB hS a12;clear a0 a1 a2 a3 a4 a5 a6 a7 a8 a9 iy iL a12;have HT5:=Zh (HT.o.below hS);have HR5:=Zh (Q6 HR2.o hS.size)
 cases EB with
 | true =>
  clear hS q3;go_wp2;go_ret;have hRT:R=T1:=HRR.o;rw[hRT];exact⟨r,rfl,HT5.o,HR1.o,HR5.o,kF.o⟩
 | false =>
  obtain⟨w6,lS⟩:∃ x,w5.alloc (.cells #[.pointer (some (aD r 0))] 172)=x:=⟨_,rfl⟩
  have hb6:Bw w5 w6:=by rw[<- lS]; exact dn _ _
  have hG2:=HG2.o w6 w5.heap.size r (aA kF.o hb6) (HT5.o.below hb6) (by rw[<- lS]; simp);have Af:=Zh (aA kF.o hb6);clear hb6 hS q3;go_wp2_with fail;refine hG2.mono ?_;rintro e w7 ⟨r',rfl,hT,hr1,hr2,iZ⟩;have HP:Hid (bR 178 F w T2 (.returned (.pointer (some (aD r' 0)))) w7):=⟨r',rfl,hT,Zl Af.o.size hr1,hr2,aA Af.o iZ⟩
  clear hG2 hT hr1 hr2 iZ lS;go_wp2;go_ret;have hRT:R=T2:=HRR.o;rw[hRT];exact HP.o
def Fv(F:Nat->Prop)(v:Value):Nat->Prop:=fun b=>F b/\v.ownBlock≠some b
theorem Fz.own(h:Fz F W0 w)(hv:∀ g,v.ownBlock=some g->W0.heap.size<=g/\g<w.heap.size):Fz (Fv F v) W0 w:=
 ⟨h.below,fun b hb=>⟨h.low b hb,fun e=>by have:=(hv b e).1; have:=hb.lt; omega⟩,fun b hb=>⟨h.high b hb,fun e=>by have:=(hv b e).2; omega⟩⟩
theorem aG.own(h:aG T F w0 a t)(hb:Bw w0 w)(hv:∀ g,v.ownBlock=some g->w0.heap.size<=g):aG T (Fv F v) w a t:=
 (h.mono (G:=Fv F v) (fun b hb hF=>⟨hF,fun e=>by have:=hv b e; omega⟩)).below hb
theorem aG.KG(h:aG T (Fv F v) w a t):aG T F w a t:=h.mono fun _ _ h=>h.1
structure bU(T Tp:TypeId)(F:Nat->Prop)(base:Nat)(w:World)(v:Value)(bs:List (Nat × aQ)):Prop where
 own:w.ownsRow base Tp 1 v bs.length ((bs.map Prod.fst).map fun x=>Value.pointer (some (aD x 0)))
 tree:∀ x∈bs,aG T (Fv F v) w x.1 x.2/\base<=x.1/\x.1<w.heap.size
 rise:(bs.map Prod.fst).Pairwise (· < ·)
def jP(T Tp:TypeId)(F:Nat->Prop)(w:World)(l:List aQ)(e:Ending)(w':World):Prop:=
 ∃ v bs,e=.returned v/\bs.map Prod.snd=l/\bU T Tp F w.heap.size w' v bs/\Bw w w'
theorem bU.one{b:Nat}(hb:base<=b)(hg:GB w b Tp #[.pointer (some (aD a 0))])(ht:aG T F w0 a t)(hw:Bw w0 w)(h0:w0.heap.size<=b)(ha:base<=a)(hl:a<w.heap.size):bU T Tp F base w (.slice (some (aD b 0)) 1 1) [(a,t)]:=
 ⟨⟨rfl,.inr ⟨b,1,#[.pointer (some (aD a 0))],rfl,hb,hg,Qx _,by unfold maxLen; omega,rfl,rfl⟩⟩,fun x hx=>by rw[ZR]at hx; rw[hx]; exact⟨ht.own hw (fun g e=>by cases e; exact h0),ha,hl⟩,List.pairwise_singleton _ _⟩
theorem bU.nil(T Tp:TypeId)(F:Nat->Prop)(base:Nat)(w:World):bU T Tp F base w (.slice none 0 0) []:=⟨ZV _ _ _ _,(fun x hx=>by cases hx),List.Pairwise.nil⟩
theorem bU.below{T Tp:TypeId}{F:Nat->Prop}{base:Nat}{w w':World}{v:Value}{bs:List (Nat × aQ)}(h:bU T Tp F base w v bs)(hb:Bw w w'):bU T Tp F base w' v bs:=
 ⟨ZN h.own (Zo (s:=fun b=>b<w.heap.size) hb (fun b _ h=>h)) (fun g hg=>(ZO h.own hg).2),fun x hx=>⟨(h.tree x hx).1.below hb,(h.tree x hx).2.1,Q6 (h.tree x hx).2.2 hb.size⟩,h.rise⟩
theorem aG.pushed(h:aG T (Fv F v) w a t)(hk:Kept (fun b=>v.ownBlock≠some b) w w')(hat:v'.ownBlock=v.ownBlock∨∃ g,v'.ownBlock=some g/\w.heap.size<=g):aG T (Fv F v') w' a t:=by
 have h1:=h.mono (G:=fun b=>Fv F v b/\Fv F v' b) (fun b hb hF=>⟨hF,hF.1,fun e=>by
  rcases hat with h | ⟨g,h,hg⟩
  ·exact hF.2 (h ▸ e)
  ·rw[h]at e;injection e with e;omega⟩)
 exact(h1.aX (hk.mono fun b _ hb=>hb.1.2)).mono fun _ _ h=>h.2
theorem bU.push(h:bU T Tp F base w0 v bs)(hb:Bw w0 w)(ht:aG T (Fv F v) w a t)(ha:w0.heap.size<=a)(hl:a<w.heap.size)(hbase:base<=w0.heap.size)
  (ho:w'.ownsRow base Tp 1 v' (bs.map Prod.fst++[a]).length ((bs.map Prod.fst++[a]).map fun x=>Value.pointer (some (aD x 0)))) (hk:Kept (fun b=>v.ownBlock≠some b) w w') (hat:v'.ownBlock=v.ownBlock∨∃ g,v'.ownBlock=some g/\w.heap.size<=g):bU T Tp F base w' v' (bs++[(a,t)]):=by
 refine⟨?_,fun x hx=>?_,?_⟩
 ·rw[Qs,Zb];rw[Zb,Zc]at ho;exact ho
 ·rcases ZT.1 hx with hx | hx
  ·have:=h.tree x hx;exact⟨(this.1.below hb).pushed hk hat,this.2.1,Q6 this.2.2 (Zl hb.size hk.size)⟩
  ·rw[ZR]at hx;rw[hx];exact⟨ht.pushed hk hat,Zl hbase ha,Q6 hl hk.size⟩
 ·rw[Qs,List.pairwise_append];refine⟨h.rise,List.pairwise_singleton _ _,fun x hx y hy=>?_⟩;obtain⟨z,hz,rfl⟩:=Zi.1 hx;rw[List.map_singleton,ZR]at hy;rw[hy];exact Q6 (h.tree z hz).2.2 ha
theorem bU.len(h:bU T Tp F base w v bs):(bs.map Prod.fst).length=bs.length:=Zc _
theorem xV(a:Nat)(t:aQ)(ht:aG 178 F w a t)(bo:Option Addr)(bc:Nat)(bs:List (Nat × aQ))(hp:dB w bo (bs.map Prod.fst))(hbs:∀ x∈bs,aG 178 F w x.1 x.2)(hl:bs.length<=1000) :
  Calls Tryz.prog 303 #[.pointer (some (aD a 0)),.slice bo bs.length bc] w fun e w'=>∃ r,e=.returned (.pointer (some (aD r 0)))/\aG 178 F w' r (fe t (bs.map Prod.snd))/\Bw w w':=by
 have RX:=Zh hp;have wX:Hid ((bs.map Prod.fst).length=bs.length):=Zc _;have HST:Hid (∀ k,k<bs.length->fe t ((bs.map Prod.snd).take (k+1))=mg (fe t ((bs.map Prod.snd).take k)) ((bs.map Prod.snd).getD k mR)):=fun k hk=>by
  rw[XL _ mR (by rw[Zc]; exact hk)];unfold fe;rw[QZ];rfl
 have R3:Hid (∀ k,k<bs.length->aG 178 F w ((bs.map Prod.fst).getD k 0) ((bs.map Prod.snd).getD k mR)):=fun k hk=>by
  have h1:(bs.map Prod.fst).getD k 0=(bs[k]).1:=by rw[XH,Ze,ZX hk]; rfl
  have h2:(bs.map Prod.snd).getD k mR=(bs[k]).2:=by rw[XH,Ze,ZX hk]; rfl
  rw[h1,h2];exact hbs _ (Qp hk)
 have HE:Hid (fe t ((bs.map Prod.snd).take bs.length)=fe t (bs.map Prod.snd)):=by show _=_; rw[Xl (by rw[Zc]; exact Qx _)]
 have HT0:Hid (aG 178 F w a (fe t ((bs.map Prod.snd).take 0))):=ht;clear hp hbs ht;generalize bs.map Prod.fst=bf at *;generalize fe t (bs.map Prod.snd)=R at *;obtain⟨CH,hCH⟩:∃ C:Nat->aQ,C=fun k=>fe t ((bs.map Prod.snd).take k):=⟨_,rfl⟩
 obtain⟨BD,OG⟩:∃ C:Nat->aQ,C=fun k=>(bs.map Prod.snd).getD k mR:=⟨_,rfl⟩
 have OL:Hid (∀ k,k<bs.length->CH (k+1)=mg (CH k) (BD k)):=by rw[hCH,OG]; exact HST.o
 have YE:Hid (∀ k,k<bs.length->aG 178 F w (bf.getD k 0) (BD k)):=by rw[OG]; exact R3.o
 have HE2:Hid (CH bs.length=R):=by rw[hCH]; exact HE.o
 have aqY:Hid (aG 178 F w a (CH 0)):=by rw[hCH]; exact HT0.o
 clear hCH OG HST R3 HE HT0;generalize bs.length=bl at *;clear bs;go_enter Tryz.func303,Tryz.ntmps303;go_wp2;go_loopw [5,11] (fun pv iv wr=>∃ k r:Nat,k<=bl/\iv=.int .i64 (k:Int)/\pv=.pointer (some (aD r 0))/\Hid (aG 178 F w r (CH k))/\Hid (Bw w wr)) (fun _ iv _=>bl-(intOf iv).toNat)
 case atStart=>exact⟨0,a,Q8 _,rfl,rfl,aqY.o,Qw _ _⟩
 case round=>
  obtain⟨k,r,hk,rfl,rfl,HR,jV⟩:=hrel;by_cases hlt:k<bl
  ·obtain⟨bb,Ol,rfl,hbc⟩:=dB.get (RX.o.below jV.o) (i:=k) (by rw[wX.o]; exact hlt);have hck:=hbc k (by rw[wX.o]; exact hlt);obtain⟨p,hP,yQ⟩:=HR.o.lh;obtain⟨p',hP',akW⟩:=(YE.o k hlt).lh;obtain⟨x,hx⟩:=eY (bf.getD k 0)
   rw[<- hx]at hck hP';have HX:Hid (aG 178 F w x (BD k)):=by rw[hx]; exact YE.o k hlt
   have c1:=cB jV.o hP.c5;have c2:=cB jV.o hP'.c5;have hS:=OL.o k hlt;have e1:p.cost=(CH k).d.cost:=congrArg bZ.cost yQ;have e2:p'.cost=(BD k).d.cost:=congrArg bZ.cost akW;have HS:Hid (CH (k+1)=if p'.cost<p.cost then BD k else CH k):=by show _=_; rw[hS,e1,e2]; rfl
   generalize p.cost=cr at *;generalize p'.cost=cx at *;clear hbc hx hP hP' yQ akW hS e1 e2 p p';obtain⟨wq,hwq⟩:∃ x,x=wr:=⟨_,rfl⟩
   subst hwq;go_wp2_with fail;refine QG (by kernel_rfl) (by kernel_rfl) ?_;refine qS (.pointer (some (aD x 0))) ?_;refine qS (.pointer (some (aD x 0))) ?_;refine qS (.pointer (some (aD x 0))) ?_;refine qS (.pointer (some (aD x 5))) ?_;refine qC (.int .u64 (cx:Int)) c2 ?_;refine qS (.pointer (some (aD r 0))) ?_;refine qS (.pointer (some (aD r 0))) ?_;refine qS (.pointer (some (aD r 0))) ?_;refine qS (.pointer (some (aD r 5))) ?_;refine qC (.int .u64 (cr:Int)) c1 ?_;refine qS (.bool (decide ((cx:Int)<(cr:Int)))) ?_;refine Xv ?_;intro w2 hb2;have HB2:=Zh (jV.o.trans (hb2.mono jV.o.size));clear hb2;by_cases hc:cx<cr
   ·have hcb:decide ((cx:Int)<(cr:Int))=true:=QD (by omega);have HN:Hid (aG 178 F w x (CH (k+1))):=by rw[HS.o,Qy hc]; exact HX.o
    rw[hcb];clear hc HS;go_wp2;go_roundw
    case rel=>exact⟨k+1,x,by omega,by go_num,rfl,HN.o,HB2.o⟩
    case measure=>simp[intOf]; omega
   ·have hcb:decide ((cx:Int)<(cr:Int))=false:=Ql (by omega);have HN:Hid (aG 178 F w r (CH (k+1))):=by rw[HS.o,Qz hc]; exact HR.o
    rw[hcb];clear hc HS;go_wp2;go_roundw
    case rel=>exact⟨k+1,r,by omega,by go_num,rfl,HN.o,HB2.o⟩
    case measure=>simp[intOf]; omega
  ·have hkb:bl=k:=by omega
   subst hkb;rw[HE2.o]at HR;go_wp2;go_ret;exact⟨r,rfl,HR.o.below jV.o,jV.o⟩
theorem KH(E:Env f ts q W0)(hz:Fz F W0 w)(a:Nat)(t:aQ)(ht:aG 178 F w a t)(hto:jB q t) :
  Calls Tryz.prog 304 #[.agg (f.cells ts q),.pointer (some (aD a 0))] w (jP 178 172 F w (eT ts q t)):=by
 obtain⟨v0,v1,v2,v3,v4,v5,v6,v7,v8,v9,v10,v11,v12,bB,hv0,hv1,hv2,hv3,hv4,hv5,hv6,-⟩:=Xu f ts q;have uW:q.cells=#[v0,v1,v2,v3,v4,v5,v6]:=by rw[hv0,hv1,hv2,hv3,hv4,hv5,hv6]; rfl
 clear hv0 hv1 hv2 hv3 hv4 hv5 hv6;have OM:Hid (∀ (G:Nat->Prop) x r u,Fz G W0 x->aG 178 G x r u->jB q u->Calls Tryz.prog 345 #[.agg #[v0,v1,v2,v3,v4,v5,v6,v7,v8,v9,v10,v11,v12],.pointer (some (aD r 0))] x (bR 178 G x (gV ts q u))):=fun G x r u hx hr hu=>by
  rw[<- bB];exact Uv E hx r u hr hu
 have HEO:Hid (∀ (G:Nat->Prop) x,Fz G W0 x->Calls Tryz.prog 230 #[.agg #[v0,v1,v2,v3,v4,v5,v6]] x (Cq G x (aM q))):=fun G x hx=>by
  rw[<- uW];exact xP E hx
 have uS:Hid (∀ (G:Nat->Prop) x (o:ah),Fz G W0 x->aG 178 G x a t->o.xs=aM q->IntsIn G x o->Calls Tryz.prog 346 #[.agg #[v0,v1,v2,v3,v4,v5,v6,v7,v8,v9,v10,v11,v12],.pointer (some (aD a 0)),o.val] x (bR 178 G x (bO ts q t (aM q)))):=fun G x o hx ht ho hi=>by
  rw[<- bB,<- ho];exact Cs E hx a t ht hto o hi.at' hi.inf hi.nil hi.cap (by rw[ho]; have:=E.Yu; omega)
 have HTO:=Zh hto;have Kz:Hid (jB q (bO ts q t (aM q))):=vL _ hto;have kJ:Hid (eT ts q t=if 0<(aM q).length then [gV ts q t,gV ts q (bO ts q t (aM q))] else [gV ts q t]):=rfl;have MX:=Zh ht;have HZ:=Zh hz;rw[bB];clear bB uW ht hto E hz;generalize eT ts q t=R at *;obtain⟨T1,hT1⟩:∃ u,gV ts q t=u:=⟨_,rfl⟩
 obtain⟨T2,Cw⟩:∃ u,bO ts q t (aM q)=u:=⟨_,rfl⟩
 obtain⟨T3,Cx⟩:∃ u,gV ts q T2=u:=⟨_,rfl⟩
 rw[hT1,Cw,Cx]at kJ;rw[Cw]at uS Kz;generalize aM q=EO at *;obtain⟨w1,hw1,hb1,hg1⟩:=aU w #[v0,v1,v2,v3,v4,v5,v6,v7,v8,v9,v10,v11,v12] 90;obtain⟨a0,a1,a2,a3,a4,a5,a6,a7,a8,a9,iy,iL,a12⟩:=hg1.k13;have HB1:=Zh hb1;have hEN:=OM.o F w1 a t (HZ.o.next hb1) (MX.o.below hb1) HTO.o;rw[hT1]at hEN;have HT3:=Zh Cx;have hlt1:=Zh hg1.lt;clear hb1 hg1 hT1 Cw Cx;go_enter Tryz.func304,Tryz.ntmps304;go_wp2_with fail;refine hEN.mono ?_;rintro e w2 ⟨r,rfl,hT,hr1,hr2,hb2⟩;obtain⟨w3,hw3⟩:∃ x,w2.alloc (.cells #[.pointer (some (aD r 0))] 172)=x:=⟨_,rfl⟩
 have hb3:Bw w2 w3:=by rw[<- hw3]; exact dn _ _
 have lY:=aA hb2 hb3;have HI3:=Zh (bU.one (Zl HB1.o.size hb2.size) (by rw[<- hw3]; exact l6 _ _) hT hb3 (Qx _) (Zl HB1.o.size hr1) (Q6 hr2 hb3.size));have HB3:=Zh (aA HB1.o lY);have b0:=cB lY a0;have b1:=cB lY a1;have b2:=cB lY a2;have b3:=cB lY a3;have b4:=cB lY a4;have b5:=cB lY a5;have b6:=cB lY a6;have b7:=cB lY a7;have b8:=cB lY a8;have b9:=cB lY a9;have b10:=cB lY iy;have b11:=cB lY iL;have b12:=cB lY a12;clear a0 a1 a2 a3 a4 a5 a6 a7 a8 a9 iy iL a12;have hsz2:=Zh hb2.size;clear hEN hT hr1 hr2 hb2 hb3 lY hw1;have hv3:∀ g,(Value.slice (some (aD w2.heap.size 0)) 1 1).ownBlock=some g->w.heap.size<=g/\g<w3.heap.size:=fun g e=>ZO HI3.o.own e
 obtain⟨G,hG⟩:=eY (Fv F (.slice (some (aD w2.heap.size 0)) 1 1))
 have HZ3:Hid (Fz G W0 w3):=by rw[hG]; exact(HZ.o.next HB3.o).own (fun g e=>⟨Zl HZ.o.below.size (hv3 g e).1,(hv3 g e).2⟩)
 have HA3:Hid (aG 178 G w3 a t):=by rw[hG]; exact MX.o.own HB3.o (fun g e=>(hv3 g e).1)
 have yR:=Zh hG;have hne:w.heap.size≠w2.heap.size:=by have:=HB1.o.size; have:=hlt1.o; have:=hsz2.o; omega
 have hEO:=HEO.o G w3 HZ3.o;clear hv3 hG;go_wp2_with fail;refine hEO.mono ?_;rintro e w4 ⟨o,rfl,ho,hin,hb4⟩;clear hEO hw3;have a0:=cB hb4 b0;have a1:=cB hb4 b1;have a2:=cB hb4 b2;have a3:=cB hb4 b3;have a4:=cB hb4 b4;have a5:=cB hb4 b5;have a6:=cB hb4 b6;have a7:=cB hb4 b7;have a8:=cB hb4 b8;have a9:=cB hb4 b9;have iy:=cB hb4 b10;have iL:=cB hb4 b11;have a12:=cB hb4 b12;clear b0 b1 b2 b3 b4 b5 b6 b7 b8 b9 b10 b11 b12;have HI4:=Zh (HI3.o.below hb4);have mH:=Zh (aA HB3.o hb4);have HO:=Zh ho;have RZ:=Zh hin;have HZ4:=Zh (HZ3.o.next hb4);have HA4:=Zh (HA3.o.below hb4);clear hb4 hin HI3 HZ3 HA3 HEO;by_cases hn:0<EO.length
 ·have HR2:Hid (R=[T1,T3]):=by show _=_; rw[kJ.o,Qy hn]
  have hnb:decide (0<o.xs.length)=true:=QD (by rw[ho]; exact hn);have hnc:0<o.xs.length:=by rw[ho]; exact hn
  obtain⟨oa,oc,ox⟩:=o;simp only[ah.val]at *;clear ho hn;go_wp2_with fail;refine QX (S:=fun x=>Kept (fun b=>b≠w2.heap.size) w4 x) (by kernel_rfl) (Zo ((Qw w4.heap.size w4).drew) (fun _ hl _=>hl)) (fun hS=>?_);refine wt 0 (.slice (some (aD w2.heap.size 0)) 1 1) hS ?_;refine wT 1 (.agg #[v0,v1,v2,v3,v4,v5,v6,v7,v8,v9,v10,v11,v12]) hS (fun x hx=>?_) ?_
  ·have e0:=ZI a0 hx hne;have e1:=ZI a1 hx hne;have e2:=ZI a2 hx hne;have e3:=ZI a3 hx hne;have e4:=ZI a4 hx hne;have e5:=ZI a5 hx hne;have e6:=ZI a6 hx hne;have e7:=ZI a7 hx hne;have e8:=ZI a8 hx hne;have e9:=ZI a9 hx hne;have e10:=ZI iy hx hne;have e11:=ZI iL hx hne;have e12:=ZI a12 hx hne;go_simp
  refine wT 2 (.agg #[v0,v1,v2,v3,v4,v5,v6,v7,v8,v9,v10,v11,v12]) hS (fun x hx=>?_) ?_
  ·have e0:=ZI a0 hx hne;have e1:=ZI a1 hx hne;have e2:=ZI a2 hx hne;have e3:=ZI a3 hx hne;have e4:=ZI a4 hx hne;have e5:=ZI a5 hx hne;have e6:=ZI a6 hx hne;have e7:=ZI a7 hx hne;have e8:=ZI a8 hx hne;have e9:=ZI a9 hx hne;have e10:=ZI iy hx hne;have e11:=ZI iL hx hne;have e12:=ZI a12 hx hne;go_simp
  refine wt 3 (.pointer (some (aD a 0))) hS ?_;refine wt 4 (.slice oa ox.length oc) hS ?_;refine wR 5 fun K hK=>?_
  go_simp;refine Xt (uS.o G _ ⟨oa,oc,ox⟩ (HZ4.o.next ((Qw _ _).drew)) (HA4.o.below ((Qw _ _).drew)) HO.o (RZ.o.below ((Qw _ _).drew))) ?_;rintro e w5 ⟨r2,rfl,Cw,h21,h22,hb5⟩;have hd:=(Qw w4.heap.size w4).drew;have YF:=hd.trans (hb5.mono hd.size);refine hK.o _ _ (Zo YF (fun b hb _=>hb)) (fun hS=>?_);clear hK K;refine wR 6 fun K hK=>?_
  go_simp;refine Xt (OM.o G _ r2 T2 (HZ4.o.next YF) Cw Kz.o) ?_;rintro e w6 ⟨r3,rfl,Cx,h31,h32,hb6⟩;have Ha:=YF.trans (hb6.mono YF.size);rw[HT3.o]at Cx;refine hK.o _ _ (Zo Ha (fun b hb _=>hb)) (fun hS=>?_);clear hK K;refine wR 7 fun K hK=>?_
  go_simp;refine hK.o _ _ (hS.trans (Zr _ _)) (fun hS=>?_);clear hK K;refine wR 8 fun K hK=>?_
  obtain⟨v',w7,pQ,KI,lu,⟨xa,xm,xc,rfl⟩,hat⟩:=xN w6 w.heap.size (.slice (some (aD w2.heap.size 0)) 1 1) [r] (HI4.o.below Ha).own (by simp) (Zl mH.o.size Ha.size) r3 176;have aqZ:=Zl YF.size h31;have HI7:=bU.push HI4.o Ha (yR.o ▸ Cx) aqZ h32 mH.o.size KI lu (hat.imp id (fun e=>⟨_,e,by omega⟩));have agI:Kept (fun b=>b≠w2.heap.size) w4 w7:=(Zo Ha (fun b hb _=>hb)).trans (lu.mono fun b _ hb e=>hb (by injection e with e; exact e.symm));refine Xy (by rfl) _ _ _ (by rfl) (.slice (some (aD w2.heap.size 0)) 1 1) (.slice (some (aD w6.heap.size 0)) 1 1) (.slice xa xm xc) w7 (by rfl) (by rfl) pQ ?_;refine hK.o _ _ agI fun hS=>?_
  clear hK K;refine wR 9 fun K hK=>?_
  go_simp;refine hK.o _ _ hS fun hS=>?_
  clear hK K;refine wD ?_
  try simp only[pU]
  have HF:Hid (jP 178 172 F w R (.returned (.slice xa xm xc)) w7):=⟨_,[(r,T1),(r3,T3)],rfl,HR2.o.symm,HI7,mH.o.trans (agI.below mH.o.size (fun b hb=>by have:=HB1.o.size; have:=hsz2.o; omega))⟩
  clear pQ KI lu hat HI7 agI hS;go_wp2;go_ret;exact HF.o
 ·have HR2:Hid (R=[T1]):=by show _=_; rw[kJ.o,Qz hn]
  have h0:o.xs.length=0:=by rw[ho]; omega
  obtain⟨oa,oc,ox⟩:=o;simp only[ah.val]at *;rw[h0];clear h0 ho hn HO RZ;go_wp2;go_ret;exact⟨_,[(r,T1)],rfl,HR2.o.symm,HI4.o,mH.o⟩
