import Derived.Test.YtlpbelhfpoilpaaGreatDoorRE13
set_option linter.all false
set_option maxRecDepth 100000
set_option maxHeartbeats 16000000
namespace Go.Proofs.Zz
open Go.RowKit Go.Shelf
variable {e t:TypeId} {W:World} {cs:List aC} {b base k n n' sz:Nat} {l:List Int} {v v':Value} {xs xs':List Value}
section
theorem vI{α:Type}{pre l:List α}{x:α}(h:pre++[x] <+: l):x∈l:=h.subset (by simp)
structure DY(w2:World)(t:TypeId)(X:Nat)(o1:Nat->Prop)(W:World):Prop where
 g:GB W w2.heap.size t #[.int .u64 (X:Int)]
 below:Bw w2 W
 iff:∀ b,o1 b↔b=w2.heap.size
theorem DY.keep{w2:World}{t:TypeId}{X:Nat}{o1:Nat->Prop}{A B:World}{n:Nat}(h:DY w2 t X o1 A)(hn:w2.heap.size<=n)(hk:Kept (fun b=>o1 b∨b<n) A B):DY w2 t X o1 B:=
 ⟨h.g.keep hk (.inl ((h.iff _).2 rfl)),h.below.trans (hk.below h.below.size (fun b hb=>.inr (by omega))),h.iff⟩
theorem DY.step{w2:World}{X Y:Nat}{o1:Nat->Prop}(h:DY w2 t X o1 W):DY w2 t Y o1 (W.drew.setCell (aD w2.heap.size 0) (.int .u64 (Y:Int)))/\Kept (fun b=>¬ o1 b) W (W.drew.setCell (aD w2.heap.size 0) (.int .u64 (Y:Int))):=by
 have hk:Kept (fun b=>b≠w2.heap.size) W (W.drew.setCell (aD w2.heap.size 0) (.int .u64 (Y:Int))):=(Zo ((Qw W.heap.size W).drew) (fun b hb _=>hb)).trans (ZL _ _ _ (fun h=>h rfl));exact⟨⟨(h.g.keep (Zo (s:=fun _=>True) ((Qw W.heap.size W).drew) (fun b hb _=>hb)) trivial).set 0 _,h.below.trans (hk.below h.below.size (fun b hb=>Nat.ne_of_lt hb)),h.iff⟩,hk.mono fun b _ hb e=>hb ((h.iff b).2 e)⟩
attribute [local go_sem] Oper.semAt_some
theorem J2(f:au)(ts:List af)(q:ae)(p:az)(ao:Option Addr)(pl cap:Nat)(w:World)(ok:Ok ts q)(hf:f.At ts q w)(hs:p.sources<2 ^ q.src.xs.length)(hc:p.clauses<2 ^ q.wh.length)(hk:eD p.kind=false) :
  Cb 207 #[.agg (f.cells ts q),.agg p.cells,.slice ao pl cap] w (.int .u64 ((oC ts q p.sources p.clauses:Nat):Int)):=by
 have acr:p.sources<18446744073709551616:=Q6 hs (Q7 (n:=2) (by omega) ok.small);have N7:p.clauses<18446744073709551616:=Q6 hc (Q7 (n:=2) (by omega) ok.mP);have HSM:Hid (∀ x∈aR p.sources,x<q.src.xs.length):=fun x hx=>Fy hs hx
 have HCM:Hid (∀ x∈aR p.clauses,x<q.wh.length):=fun x hx=>Fy hc hx
 have HSQ:=Zh (qK p.sources acr);have HCQ:=Zh (qK p.clauses N7);have HR:Hid _:=hf.rows;have HP:Hid _:=hf.parts;have HRL:=Zh (Tt ts q);have Be:=Zh (Fe ts q);have HRB:Hid (∀ x,x<q.src.xs.length->(zY ts q).getD x 0<=bV):=fun x hx=>by
  rw[Ff ts q hx];obtain⟨h0,h1⟩:=xB ok.src (k:=x) hx;have ht:=xu ok.cat (i:=(q.src.xs.getD x 0).toNat) (by omega);unfold dV at ht;rw[QJ]at ht;unfold rE bV;rw[Zj];omega
 have HPB:Hid (∀ x,x<q.wh.length->1<=(uQ ts q).getD x 0/\(uQ ts q).getD x 0<=1000000):=fun x hx=>by
  rw[ze ts q hx];exact WX ok.cat ok.src (ok.aO x hx)
 obtain⟨X,hX0,Yg,hXt,hXa⟩:∃ X:List Nat->Nat,X []=1/\(∀ pre x,x<q.src.xs.length->X (pre++[x])=gD (X pre) ((zY ts q).getD x 0))/\(∀ pre,X pre<=bV)/\X (aR p.sources)=((aR p.sources).map fun (k:Nat)=>rE ts q.src.xs (k:Int)).foldl gD 1:=
  ⟨fun pre=>(pre.map fun (k:Nat)=>rE ts q.src.xs (k:Int)).foldl gD 1,rfl,fun pre x hx=>by simp only[Qs,QZ]; rw[Ff ts q hx]; rfl,fun pre=>nO _ 1 (by unfold bV; omega),rfl⟩
 obtain⟨S0,hS0⟩:=eX (X (aR p.sources))
 obtain⟨Y,hY0,hYs,hYt,hYa⟩:∃ Y:List Nat->Nat,Y []=S0/\(∀ pre x,x<q.wh.length->Y (pre++[x])=Y pre / (uQ ts q).getD x 0)/\(∀ pre,Y pre<=bV)/\Y (aR p.clauses)=(aR p.clauses).foldl (fun x c=>x / jE ts q.src.xs (q.wh.getD c lz).cs) S0:=
  ⟨fun pre=>pre.foldl (fun x c=>x / jE ts q.src.xs (q.wh.getD c lz).cs) S0,rfl,fun pre x hx=>by simp only[QZ]; rw[ze ts q hx]; rfl,fun pre=>Zl (sw _ pre S0) (by rw[<- hS0]; exact hXt _),rfl⟩
 obtain⟨R,hR⟩:=eY (oC ts q p.sources p.clauses)
 have kJ:Hid (R=if S0=0 then 0 else max (Y (aR p.clauses)) 1):=by
  show R=_
  rw[hR];unfold oC;rw[<- hXa,hS0,hYa]
 rw[<- hR];clear hR;have HX0:=Zh hX0;have HXS:=Zh Yg;have HXT:=Zh hXt;have HS0:=Zh hS0;have HY0:=Zh hY0;have HYS:=Zh hYs;have HYT:=Zh hYt;clear hX0 Yg hXt hXa hS0 hY0 hYs hYt hYa;have hOK:=fun x=>xy p.kind x
 rw[hk]at hOK;obtain⟨v0,v1,v2,v3,v4,v5,v6,v7,v8,v9,v10,v11,v12,bB,-,-,-,-,-,-,-,-,-,-,akr,-,age⟩:=Xu f ts q;rw[bB];rw[hf.pl]at age;rw[TM];clear hk hs hc acr N7 bB ok hf;generalize zY ts q=RL at *;generalize uQ ts q=PL at *;generalize aR p.sources=SL at *;generalize aR p.clauses=CL at *;obtain⟨kind,ps,pc,ord,pz1,pz2⟩:=p;simp only at *;generalize ord.val=od at *;obtain⟨w1,hw1,hk1,hg1⟩:=aU w #[v0,v1,v2,v3,v4,v5,v6,v7,v8,v9,v10,v11,v12] 90;obtain⟨w2,hw2,hk2,hg2⟩:=aU w1 #[.int .i64 kind,.int .u64 (ps:Int),.int .u64 (pc:Int),od,.int .u64 (pz1:Int),.int .u64 (pz2:Int)] 95;have hc1:=hk2;have hc0:=aA hk1 hc1;have iq:=hg1.of (hc1.block _ hg1.lt);have dz:=iq.at 10;have dA:=iq.at 12;have kI:=hg2;obtain⟨jJ,lJ,lK⟩:=kI.k3;rw[akr]at dz;rw[age]at dA;clear akr age;obtain⟨w3,hw3,hk3,hg3⟩:=aU w2 #[.int .u64 1] 36;have hz3:Hid (w3.heap.size=w2.heap.size+1):=by rw[<- hw3]; show _=_; simp
 have TN:=Zh hc0;have rU:=Zh hk3;have AP:Hid _:=hg3;have b1:=cB hk3 lJ;have aqg:=Zh dz;have aqh:=Zh dA;have G22:=Zh lK;clear hk1 hk2 hg1 hg2 iq kI hc0 hc1 hk3 hg3 dz dA lK lJ;refine(Zu (n:=0)).1 (ZJ Tryz.func207 rfl trivial ?_ rfl);simp only[Tryz.ntmps207,Zy,Zg,ZA,Nat.reduceAdd,Nat.reduceSub,ZB,ZC,ZE,ZF,ZG,ZH]
 gi_wp2
 refine⟨trivial,rfl,Zu.2 ((hOK _).mono ?_)⟩;rintro e W ⟨rfl,hWe⟩;have hWe:=hWe.symm;subst hWe;clear hOK
 gi_wp2
 clear b1 jJ hw1 hw2 hw3;refine uh kz (gf:=162) (s:=.int .u64 (ps:Int)) rfl (enters_of Tryz.func162 (by kernel_rfl) rfl) (HSQ.o w2) rU.o rfl
  (fun pre o1 W=>DY w2 36 (X pre) o1 W) (fun b=>b=w2.heap.size) ?_ ?_ ⟨by rw[HX0.o]; exact AP.o,rU.o,fun _=>Iff.rfl⟩
  (fun x=>{ tmps:=#[.agg #[v0,v1,v2,v3,v4,v5,v6,v7,v8,v9,v10,v11,v12],.agg #[.int .i64 kind,.int .u64 (ps:Int),.int .u64 (pc:Int),od,.int .u64 (pz1:Int),.int .u64 (pz2:Int)],.slice ao pl cap,.pointer (some (aD w.heap.size 0)),.pointer (some (aD w1.heap.size 0)),undef,.int .u64 0,.pointer (some (aD w2.heap.size 0)),.int .i64 (x:Int),undef,undef,.pointer (some (aD w1.heap.size 0)),.int .i64 kind,.bool false,undef,undef,undef,undef,.pointer (some (aD w1.heap.size 1)),.int .u64 (ps:Int),.func (.func 162) #[.int .u64 (ps:Int)] #[],.int .i64 (x:Int),undef,undef,undef,undef,undef,undef,undef,undef,undef,undef,undef,undef,undef,undef,undef,undef,undef,undef,undef,undef,undef,undef,undef],defers:=[] }) ?assign ?body ?done
 ·rintro b rfl;exact⟨Qx _,by have:=hz3.o; omega⟩
 ·intro pre o1 A B h hk;exact h.keep (by have:=hz3.o; omega) hk
 case assign=>
  intro l x W K hK;have he:kz.enc x=.int .i64 (x:Int):=rfl
  gi_wp2
  exact hK
 case body=>
  intro l pre x o1 W hI hpre hx hoff hsz;have hx':=HSM.o x (vI (by simpa [kz] using hpre));have hbW:=TN.o.trans (hI.below.mono TN.o.size);obtain⟨rb,ro,hra,hrc⟩:=fF.get (fF.below hbW HR.o) (i:=x) (by rw[HRL.o]; exact hx');have hrx:=hrc x (by rw[HRL.o]; exact hx');have hXn:=Zh (HXS.o pre x hx');have hrt:=HRB.o x hx';have hXt:=HXT.o pre;have hcx:=hI.g.at 0;have hfx:=hI.g.frozen 0;have agf:=cB hI.below aqg.o;rw[hra]at agf;have HI:=Zh hI;clear hrc hpre hx hoff hsz hI hbW hra;generalize RL.getD x 0=rn at *;have hT:=fun y=>vD (X pre) rn y hXt hrt
  rw[<- hXn.o]at hT;have kX:Hid (∀ act,qF kz (fun pre o1 W=>DY w2 36 (X pre) o1 W) pre x w3.heap.size o1 W .normal act (W.drew.setCell (aD w2.heap.size 0) (.int .u64 (X (pre++[x]):Int)))):=fun _=>⟨o1,HI.o.step.1,HI.o.step.2,fun b hb=>.inl hb⟩
  clear hrt hXt hXn;generalize X (pre++[x])=Xn at *;generalize X pre=Xp at *
  gi_wp2_with fail
  have agh:Tryz.prog.follows .mixedOrders=true:=by kernel_rfl
  refine wpIn_region_any agh (sF (qL (by kernel_rfl)) _ _ _ _ ?_);change wpAnyIn _ _ _ _ _ _ _ _ _ (World.drew _);refine wpAnyIn_take (i:=1) (v:=.pointer (some (aD w.heap.size 10))) rfl rfl (by kernel_rfl) (by kernel_rfl) (by kernel_rfl) (fun _ _ _ h=>h) ⟨Or.inl ⟨by rfl,fun w=>by go_simp⟩,fun _=>rfl⟩ ?_;refine wpAnyIn_take (i:=3) (v:=.int .i64 (x:Int)) rfl rfl (by kernel_rfl) (by kernel_rfl) (by kernel_rfl) (fun _ _ _ h=>h) ⟨Or.inl ⟨by rfl,fun w=>by go_simp⟩,fun _=>rfl⟩ ?_;refine Xz (rs:=[0,2]) (by kernel_rfl) (by simp) ?_;refine XA rfl (fun K hK=>?_) ?_
  ·skip;go_simp;refine hK _ _ ?_;clear hK K;refine Xz (rs:=[2]) (by kernel_rfl) (by simp) ?_;refine XA rfl (fun K hK=>?_) XB;go_simp;refine hK _ _ ?_;clear hK K;refine wpAnyIn_take (i:=4) (v:=.pointer (some (aD rb (ro+x)))) rfl rfl (by kernel_rfl) (by kernel_rfl) (by kernel_rfl) (fun _ _ _ h=>h) ⟨Or.inl ⟨by rfl,fun w=>by go_simp⟩,fun _=>rfl⟩ ?_;refine Xz (rs:=[5]) (by kernel_rfl) (by simp) ?_;refine XA rfl (fun K hK=>?_) XB;go_simp;refine hK _ _ ?_;clear hK K;refine Xz (rs:=[6]) (by kernel_rfl) (by simp) ?_;refine XA rfl (fun K hK=>?_) XB;go_simp;refine⟨trivial,rfl,Zu.2 ((hT _).mono ?_)⟩;rintro e Wt ⟨rfl,rfl⟩;refine hK _ _ ?_;clear hK K;refine Xz (rs:=[7]) (by kernel_rfl) (by simp) ?_;refine XA rfl (fun K hK=>?_) XB;go_simp;refine hK _ _ ?_;clear hK K;refine wpAnyIn_done (by kernel_rfl) ?_ _;exact kX.o ⟨#[],[]⟩
  refine XA rfl (fun K hK=>?_) XB;go_simp;refine hK _ _ ?_;clear hK K;refine wpAnyIn_take (i:=4) (v:=.pointer (some (aD rb (ro+x)))) rfl rfl (by kernel_rfl) (by kernel_rfl) (by kernel_rfl) (fun _ _ _ h=>h) ⟨Or.inl ⟨by rfl,fun w=>by go_simp⟩,fun _=>rfl⟩ ?_;refine Xz (rs:=[0,5]) (by kernel_rfl) (by simp) ?_;refine XA rfl (fun K hK=>?_) ?_
  ·skip;go_simp;refine hK _ _ ?_;clear hK K;refine Xz (rs:=[5]) (by kernel_rfl) (by simp) ?_;refine XA rfl (fun K hK=>?_) XB;go_simp;refine hK _ _ ?_;clear hK K;refine Xz (rs:=[6]) (by kernel_rfl) (by simp) ?_;refine XA rfl (fun K hK=>?_) XB;go_simp;refine⟨trivial,rfl,Zu.2 ((hT _).mono ?_)⟩;rintro e Wt ⟨rfl,rfl⟩;refine hK _ _ ?_;clear hK K;refine Xz (rs:=[7]) (by kernel_rfl) (by simp) ?_;refine XA rfl (fun K hK=>?_) XB;go_simp;refine hK _ _ ?_;clear hK K;refine wpAnyIn_done (by kernel_rfl) ?_ _;exact kX.o ⟨#[],[]⟩
  refine XA rfl (fun K hK=>?_) XB;go_simp;refine hK _ _ ?_;clear hK K;refine Xz (rs:=[0]) (by kernel_rfl) (by simp) ?_;refine XA rfl (fun K hK=>?_) XB;go_simp;refine hK _ _ ?_;clear hK K;refine Xz (rs:=[6]) (by kernel_rfl) (by simp) ?_;refine XA rfl (fun K hK=>?_) XB;go_simp;refine⟨trivial,rfl,Zu.2 ((hT _).mono ?_)⟩;rintro e Wt ⟨rfl,rfl⟩;refine hK _ _ ?_;clear hK K;refine Xz (rs:=[7]) (by kernel_rfl) (by simp) ?_;refine XA rfl (fun K hK=>?_) XB;go_simp;refine hK _ _ ?_;clear hK K;refine wpAnyIn_done (by kernel_rfl) ?_ _;exact kX.o ⟨#[],[]⟩
 case done=>
  rintro ys o' W2 hys hI hk2 hg2 hD;have agi:ys=SL:=by simpa [kz] using hys
  subst agi;rw[HS0.o]at hI;have hcp:=hI.g.at 0;have hb2:=hI.below;have hD':=Zh hD;have hlt3:=Zh ((QV.1 hD).1);by_cases h0:S0=0
  ·have aqj:Hid (R=0):=by show R=0; rw[kJ.o,Qy h0]
   subst h0;clear HXS HYS kJ HSQ HCQ HP HR HRB HPB HX0 HY0 AP
   gi_wp2
   refine⟨by simp,.inl ⟨_,_,rfl,ZK hD,?_⟩⟩;refine⟨_,results_tmp rfl _ _ _,by rw[aqj.o]; rfl,?_⟩;exact TN.o.trans (((hb2.mono TN.o.size)).trans ((Zp (s:=fun b=>b<w.heap.size) _ _ (by have:=TN.o.size; have:=hz3.o; omega)).below (Zl TN.o.size hb2.size) (fun _ h=>h)))
  ·have aqk:Hid (R=max (Y CL) 1):=by show R=_; rw[kJ.o,Qz h0]
   have h0b:((S0:Int)==0)=false:=by rw[Xr]; omega
   obtain⟨W3,hW3⟩:∃ x,W2.alloc (.cells #[.int .u64 (S0:Int)] 36)=x:=⟨_,rfl⟩
   have DZ:Bw W2 W3:=by rw[<- hW3]; exact dn _ _
   have aql:Hid (GB W3 W2.heap.size 36 #[.int .u64 (S0:Int)]):=by rw[<- hW3]; exact l6 _ _
   have acu:Hid (W3.heap.size=W2.heap.size+1):=by rw[<- hW3]; show _=_; simp
   have c2:=cB DZ (cB hb2 G22.o);have qG:=Zh DZ;have HB2:=Zh hb2;clear h0 HXS HSQ kJ HR HRB HX0 AP hk2 hg2 hD hI DZ hb2
   gi_wp2
   clear c2 hcp hW3 h0b;refine uh kz (gf:=162) (s:=.int .u64 (pc:Int)) rfl (enters_of Tryz.func162 (by kernel_rfl) rfl) (HCQ.o W2) qG.o rfl
    (fun pre o1 W=>DY W2 36 (Y pre) o1 W) (fun b=>b=W2.heap.size) ?_ ?_ ⟨by rw[HY0.o]; exact aql.o,qG.o,fun _=>Iff.rfl⟩
    (fun x=>{ tmps:=#[.agg #[v0,v1,v2,v3,v4,v5,v6,v7,v8,v9,v10,v11,v12],.agg #[.int .i64 kind,.int .u64 (ps:Int),.int .u64 (pc:Int),od,.int .u64 (pz1:Int),.int .u64 (pz2:Int)],.slice ao pl cap,.pointer (some (aD w.heap.size 0)),.pointer (some (aD w1.heap.size 0)),undef,.int .u64 0,.pointer (some (aD w2.heap.size 0)),undef,.pointer (some (aD W2.heap.size 0)),.int .i64 (x:Int),.pointer (some (aD w1.heap.size 0)),.int .i64 kind,.bool false,undef,undef,undef,undef,.pointer (some (aD w1.heap.size 1)),.int .u64 (ps:Int),.func (.func 162) #[.int .u64 (ps:Int)] #[],undef,undef,undef,undef,undef,undef,undef,undef,.int .u64 (S0:Int),.bool false,.int .u64 (S0:Int),.pointer (some (aD w1.heap.size 2)),.int .u64 (pc:Int),.func (.func 162) #[.int .u64 (pc:Int)] #[],.int .i64 (x:Int),undef,undef,undef,undef,undef,undef,undef,undef,undef],defers:=[] }) ?acv ?aks ?akt
   ·rintro b rfl;exact⟨Qx _,by have:=acu.o; omega⟩
   ·intro pre o1 A B h hk;exact h.keep (by have:=acu.o; omega) hk
   case acv=>
    intro l x W K hK;have he:kz.enc x=.int .i64 (x:Int):=rfl
    gi_wp2
    exact hK
   case aks=>
    intro l pre x o1 W hI hpre hx hoff hsz;have hx':=HCM.o x (vI (by simpa [kz] using hpre));have agj:=HB2.o.trans (hI.below.mono HB2.o.size);have hbW:=TN.o.trans (agj.mono TN.o.size);obtain⟨rb,ro,hra,hrc⟩:=fF.get (fF.below hbW HP.o) (i:=x) (by rw[Be.o]; exact hx');have hrx:=hrc x (by rw[Be.o]; exact hx');have hXn:=Zh (HYS.o pre x hx');obtain⟨hr1,hrt⟩:=HPB.o x hx';have hXt:=HYT.o pre;have hcx:=hI.g.at 0;have hfx:=hI.g.frozen 0;have agf:=cB agj aqh.o;rw[hra]at agf;have HI:=Zh hI;clear hrc hpre hx hoff hsz hI hbW hra agj;generalize PL.getD x 0=rn at *;have kX:Hid (∀ act,qF kz (fun pre o1 W=>DY W2 36 (Y pre) o1 W) pre x W3.heap.size o1 W .normal act (W.drew.setCell (aD W2.heap.size 0) (.int .u64 (Y (pre++[x]):Int)))):=fun _=>⟨o1,HI.o.step.1,HI.o.step.2,fun b hb=>.inl hb⟩
    have HQ:Hid (Y pre<=18446744073709551615):=hXt;generalize Y (pre++[x])=Xn at *;generalize Y pre=Xp at *;have hq':((Xp:Int)).tdiv (rn:Int)=(Xn:Int):=by
     rw[hXn.o,Int.tdiv_eq_ediv_of_nonneg (by omega),Int.natCast_ediv]
    have hwn:IntKind.u64.wrap (Xn:Int)=(Xn:Int):=Gm (by have:=HQ.o; rw[hXn.o]; have:=Nat.div_le_self Xp rn; omega);have hrn:¬ rn=0:=by omega
    clear hXt hXn
    gi_wp2_with fail
    have agh:Tryz.prog.follows .mixedOrders=true:=by kernel_rfl
    refine wpIn_region_any agh (sF (qL (by kernel_rfl)) _ _ _ _ ?_);change wpAnyIn _ _ _ _ _ _ _ _ _ (World.drew _);refine wpAnyIn_take (i:=1) (v:=.pointer (some (aD w.heap.size 12))) rfl rfl (by kernel_rfl) (by kernel_rfl) (by kernel_rfl) (fun _ _ _ h=>h) ⟨Or.inl ⟨by rfl,fun w=>by go_simp⟩,fun _=>rfl⟩ ?_;refine wpAnyIn_take (i:=3) (v:=.int .i64 (x:Int)) rfl rfl (by kernel_rfl) (by kernel_rfl) (by kernel_rfl) (fun _ _ _ h=>h) ⟨Or.inl ⟨by rfl,fun w=>by go_simp⟩,fun _=>rfl⟩ ?_;refine Xz (rs:=[0,2]) (by kernel_rfl) (by simp) ?_;refine XA rfl (fun K hK=>?_) ?_
    ·skip;go_simp;refine hK _ _ ?_;clear hK K;refine Xz (rs:=[2]) (by kernel_rfl) (by simp) ?_;refine XA rfl (fun K hK=>?_) XB;go_simp;refine hK _ _ ?_;clear hK K;refine wpAnyIn_take (i:=4) (v:=.pointer (some (aD rb (ro+x)))) rfl rfl (by kernel_rfl) (by kernel_rfl) (by kernel_rfl) (fun _ _ _ h=>h) ⟨Or.inl ⟨by rfl,fun w=>by go_simp⟩,fun _=>rfl⟩ ?_;refine Xz (rs:=[5]) (by kernel_rfl) (by simp) ?_;refine XA rfl (fun K hK=>?_) XB;go_simp;refine hK _ _ ?_;clear hK K;refine Xz (rs:=[6]) (by kernel_rfl) (by simp) ?_;refine XA rfl (fun K hK=>?_) XB;go_simp;refine hK _ _ ?_;clear hK K;refine Xz (rs:=[7]) (by kernel_rfl) (by simp) ?_;refine XA rfl (fun K hK=>?_) XB;go_simp;refine hK _ _ ?_;clear hK K;refine wpAnyIn_done (by kernel_rfl) ?_ _;exact kX.o ⟨#[],[]⟩
    refine XA rfl (fun K hK=>?_) XB;go_simp;refine hK _ _ ?_;clear hK K;refine wpAnyIn_take (i:=4) (v:=.pointer (some (aD rb (ro+x)))) rfl rfl (by kernel_rfl) (by kernel_rfl) (by kernel_rfl) (fun _ _ _ h=>h) ⟨Or.inl ⟨by rfl,fun w=>by go_simp⟩,fun _=>rfl⟩ ?_;refine Xz (rs:=[0,5]) (by kernel_rfl) (by simp) ?_;refine XA rfl (fun K hK=>?_) ?_
    ·skip;go_simp;refine hK _ _ ?_;clear hK K;refine Xz (rs:=[5]) (by kernel_rfl) (by simp) ?_;refine XA rfl (fun K hK=>?_) XB;go_simp;refine hK _ _ ?_;clear hK K;refine Xz (rs:=[6]) (by kernel_rfl) (by simp) ?_;refine XA rfl (fun K hK=>?_) XB;go_simp;refine hK _ _ ?_;clear hK K;refine Xz (rs:=[7]) (by kernel_rfl) (by simp) ?_;refine XA rfl (fun K hK=>?_) XB;go_simp;refine hK _ _ ?_;clear hK K;refine wpAnyIn_done (by kernel_rfl) ?_ _;exact kX.o ⟨#[],[]⟩
    refine XA rfl (fun K hK=>?_) XB;go_simp;refine hK _ _ ?_;clear hK K;refine Xz (rs:=[0]) (by kernel_rfl) (by simp) ?_;refine XA rfl (fun K hK=>?_) XB;go_simp;refine hK _ _ ?_;clear hK K;refine Xz (rs:=[6]) (by kernel_rfl) (by simp) ?_;refine XA rfl (fun K hK=>?_) XB;go_simp;refine hK _ _ ?_;clear hK K;refine Xz (rs:=[7]) (by kernel_rfl) (by simp) ?_;refine XA rfl (fun K hK=>?_) XB;go_simp;refine hK _ _ ?_;clear hK K;refine wpAnyIn_done (by kernel_rfl) ?_ _;exact kX.o ⟨#[],[]⟩
   case akt=>
    rintro ys o' W4 hys hI hk4 hg4 hD4;have agi:CL=ys:=by symm; simpa [kz] using hys
    subst agi;have hcp:=hI.g.at 0;have hb4:=hI.below;have hYt:=HYT.o CL;have aqm:Hid _:=aqk;generalize Y CL=yv at *;obtain⟨rv,hrv⟩:=eY (max yv 1)
    have hmx:max (yv:Int) 1=(rv:Int):=by omega
    have ax6:max (1:Int) (yv:Int)=(rv:Int):=by omega
    have hif:(if (yv:Int)<1 then 1 else (yv:Int))=(rv:Int):=by split <;> omega
    have HRV:Hid (R=rv):=by show R=rv; rw[hrv]; exact aqm.o
    have hDD:=(hb4.block _ hlt3.o).trans hD'.o;clear hrv HYS HCQ HP HPB HY0 HYT hk4 hg4
    gi_wp2
    refine⟨by simp,.inl ⟨_,_,rfl,ZK hD4,?_⟩⟩;refine⟨by simp,.inl ⟨_,_,rfl,ZK ((Zq (by have:=hlt3.o; have:=acu.o; omega)).trans hDD),?_⟩⟩;refine⟨_,results_tmp rfl _ _ _,by rw[HRV.o]; rfl,?_⟩;have s0:=TN.o.size;have s3:=hz3.o;have s4:=acu.o;have s5:=hb4.size;have s6:=hlt3.o;refine TN.o.trans (((HB2.o.mono s0)).trans ((hb4.mono (by omega)).trans (((Zp (s:=fun b=>b<w.heap.size) _ _ (by omega)).below (by omega) (fun _ h=>h)).trans ((Zp (s:=fun b=>b<w.heap.size) _ _ (by omega)).below (by rw[World.putObj_size]; omega) (fun _ h=>h)))))
end
theorem N8(f:au)(ts:List af)(q:ae)(p:az)(ao:Option Addr)(cap:Nat)(ps:List az)(w:World)(hp:PartsAt w ao ps)(h0:0<ps.length)(hk:eD p.kind=true) :
  Cb 207 #[.agg (f.cells ts q),.agg p.cells,.slice ao ps.length cap] w (.int .u64 (((ps.getD 0 aT).size:Nat):Int)):=by
 obtain⟨⟨pb,po,rfl,c0,c1,c2,c3,c4,c5⟩,-⟩:=hp.2 0 h0;rw[QP,Zf]at c4;have hOK:=fun x=>xy p.kind x
 rw[hk]at hOK;generalize f.cells ts q=FC at *;obtain⟨w1,hw1,hk1,hg1⟩:=aU w FC 90;obtain⟨w2,hw2,hk2,hg2⟩:=aU w1 p.cells 95;have hc1:=hk2;have hc0:=aA hk1 hc1;have kI:=hg2;have jJ:=kI.at 0;have d4:=cB hc0 c4;have HC:=Zh hc0;generalize p.kind=k at *;generalize (ps.getD 0 aT).size=z at *;generalize p.cells=PC at *;clear hk hp c0 c1 c2 c3 c4 c5 hk1 hk2 hg1 hg2 kI hc0 hc1;go_enter Tryz.func207,Tryz.ntmps207;go_wp2_with fail;refine(hOK _).mono ?_;rintro e w3 ⟨rfl,rfl⟩;go_wp2;go_ret;exact⟨rfl,HC.o⟩
theorem N9(f:au)(ts:List af)(q:ae)(p:az)(ao:Option Addr)(cap:Nat)(ps:List az)(w:World)(ok:Ok ts q)(hf:f.At ts q w)(hp:PartsAt w ao ps)(hs:p.sources<2 ^ q.src.xs.length)(hc:p.clauses<2 ^ q.wh.length)(h0:eD p.kind=true->0<ps.length) :
  Calls Tryz.prog 207 #[.agg (f.cells ts q),.agg p.cells,.slice ao ps.length cap] w fun e w'=>e=.returned (.int .u64 (((if eD p.kind=true then (ps.getD 0 aT).size else oC ts q p.sources p.clauses):Nat):Int))/\Bw w w':=by
 cases hk:eD p.kind with
 | true =>
  rw[Qy rfl];exact N8 f ts q p ao cap ps w hp (h0 hk) hk
 | false =>
  rw[Qz (by simp)];exact J2 f ts q p ao ps.length cap w ok hf hs hc hk
theorem BS(n:ai)(w:World)(h:n.kind=1->0<=n.source/\n.source<64) :
  Cb 206 #[.agg n.cells] w (.int .u64 (((if n.kind=1 then 2 ^ n.source.toNat else 0):Nat):Int)):=by
 obtain⟨w1,hw1,hk1,hg1⟩:=aU w n.cells 58;have hc0:=hk1;have iq:=hg1;have dJ:=iq.at 0;have dW:=iq.at 3;have HC:=Zh hc0;clear hg1 iq hk1 hc0;generalize n.cells=NC at *;by_cases k1:n.kind=1
 ·obtain⟨h0,h1⟩:=h k1;obtain⟨s,hs⟩:=Xo h0;rw[Qy k1];have hS:=uf w1.heap.size s (w1.alloc (.cells #[.int .i64 (s:Int)] 3)) (by simp) (by omega);have e2:2 ^ n.source.toNat=2 ^ s:=by rw[hs]; rfl
  rw[e2];obtain⟨R,hR2⟩:∃ R,R=2 ^ s:=⟨_,rfl⟩
  rw[<- hR2]at hS ⊢;clear e2 hR2;rw[hs]at dW;rw[k1]at dJ;have HB:Hid (Bw w (w1.alloc (.cells #[.int .i64 (s:Int)] 3))):=HC.o.trans ((dn _ _).mono HC.o.size);clear h hs k1 h0 h1;go_enter Tryz.func206,Tryz.ntmps206;go_wp2_with fail;refine hS.mono ?_;rintro e w3 ⟨rfl,rfl⟩;go_wp2;go_ret;exact⟨rfl,HB.o⟩
 ·rw[Qz k1];have kb:(n.kind==1)=false:=by simp[k1]
  generalize n.kind=k at *;go_enter Tryz.func206,Tryz.ntmps206;go_wp2;go_ret;exact⟨rfl,HC.o⟩
theorem GD(ts:List af)(q:ae)(hk:k<cs.length):bE (fo ts q (cO (cs.take (k+1))))=bE (fo ts q (cO (cs.take k)))|||bE (fo ts q (aN (cs.getD k cz))):=by
 rw[DW hk];unfold fo;rw[Qs,zZ]
theorem GG{c:Int}(h:c∈cO (cs.take k)):c∈cO cs:=by
 obtain⟨x,hx,hc⟩:=XC.1 h;exact XC.2 ⟨x,Xj hx,hc⟩
theorem GH(f:au)(ts:List af)(q:ae)(ca:Option Addr)(cc:Nat)(cs:List aC)(w:World)(ok:Ok ts q)(hf:iF w f.ca (iP ts q))(hx:bH w ca cs)(kS:gB ts q (cO cs)) :
  Cb 125 #[.agg (f.cells ts q),.agg #[.slice ca cs.length cc]] w (.int .u64 ((bE (dD ts q.src.xs cs):Nat):Int)):=by
 obtain⟨v0,v1,v2,v3,v4,v5,v6,v7,v8,v9,v10,v11,v12,bB,-⟩:=Xu f ts q;obtain⟨w1,hw1,hk1,hg1⟩:=aU w ((f.cells ts q)) 90;obtain⟨w2,hw2,hk2,hg2⟩:=aU w1 #[.slice ca cs.length cc] 132;have hc1:=hk2;have hc0:=aA hk1 hc1;have iq:=hg1.of (hc1.block _ hg1.lt);have kI:=hg2;have jJ:=kI.at 0;obtain⟨dJ,dY,dH,dW,dZ,eU,eH,gy,fV,fZ,dz,dE,dA⟩:=iq.k13 (by rw[bB]; rfl);have HCX:=Zh ((hx.below hc0).2);have uS:Hid (∀ x xa xc k,k<cs.length->Bw w2 x->aB x xa (aN (cs.getD k cz))->Calls Tryz.prog 196 #[.agg (f.cells ts q),.slice xa (aN (cs.getD k cz)).length xc] x fun e w'=>e=.returned (.int .u64 ((bE (fo ts q (aN (cs.getD k cz))):Nat):Int))/\Bw x w'):=
  fun x xa xc k hk hb h=>pg f ts q xa xc _ x ok (hf.below (aA hc0 hb)) h (fun c hc=>kS c (XC.2 ⟨_,Z7 hk,hc⟩))
 have HCC:Hid (∀ x c,_):=fun x c=>rG c x
 have HST:Hid (∀ k,k<cs.length->bE (fo ts q (cO (cs.take (k+1))))=bE (fo ts q (cO (cs.take k)))|||bE (fo ts q (aN (cs.getD k cz)))):=fun k hk=>GD ts q hk
 have Fu:Hid (∀ k,bE (fo ts q (cO (cs.take k)))<18446744073709551616):=fun k=>(vG ok (fun c hc=>kS c (GG hc))).lt ok.small
 have pO:Hid (∀ k,k<cs.length->bE (fo ts q (aN (cs.getD k cz)))<18446744073709551616):=fun k hk=>(vG ok (fun c hc=>kS c (XC.2 ⟨_,Z7 hk,hc⟩))).lt ok.small
 have xC:Hid (bE (fo ts q (cO (cs.take cs.length)))=bE (dD ts q.src.xs cs)):=by show _=_; rw[QA]; rfl
 have HS0:Hid (bE (fo ts q (cO (cs.take 0)))=0):=rfl;have hcl:=hx.1;have HC:=Zh hc0;obtain⟨ST,hST⟩:∃ ST:Nat->Nat,ST=fun k=>bE (fo ts q (cO (cs.take k))):=⟨_,rfl⟩
 obtain⟨SK,hSK⟩:∃ SK:aC->Nat,SK=fun c=>bE (fo ts q (aN c)):=⟨_,rfl⟩
 have pq:Hid (∀ k,k<cs.length->ST (k+1)=ST k|||SK (cs.getD k cz)):=by rw[hST,hSK]; exact HST.o
 have af6:Hid (∀ k,ST k<18446744073709551616):=by rw[hST]; exact Fu.o
 have aqn:Hid (∀ k,k<cs.length->SK (cs.getD k cz)<18446744073709551616):=by rw[hSK]; exact pO.o
 have af7:Hid (ST cs.length=bE (dD ts q.src.xs cs)):=by rw[hST]; exact xC.o
 have af8:Hid (ST 0=0):=by rw[hST]; exact HS0.o
 have TP:Hid (∀ x xa xc k,k<cs.length->Bw w2 x->aB x xa (aN (cs.getD k cz))->Cb 196 #[.agg #[v0,v1,v2,v3,v4,v5,v6,v7,v8,v9,v10,v11,v12],.slice xa (aN (cs.getD k cz)).length xc] x (.int .u64 ((SK (cs.getD k cz):Nat):Int))):=by rw[hSK,<- bB]; exact uS.o
 rw[bB]at hw1 ⊢;generalize bE (dD ts q.src.xs cs)=R at *;go_enter Tryz.func125,Tryz.ntmps125;go_wp2;go_loopw [5,11] (fun sv iv wr=>∃ k:Nat,k<=cs.length/\iv=.int .i64 k/\(∃ s:Nat,sv=.int .u64 (s:Int)/\Hid (s=ST k))/\Bw w2 wr) (fun _ iv _=>cs.length-(intOf iv).toNat)
 case atStart=>exact⟨0,Q8 _,rfl,⟨0,rfl,af8.o.symm⟩,Qw _ _⟩
 case round=>
  obtain⟨k,hk,rfl,⟨s,rfl,hs⟩,hbr⟩:=hrel;by_cases hlt:k<cs.length
  ·obtain⟨cb,co,rfl,c0,c1,c2,c3,c4⟩:=HCX.o k hlt;have d0:=cB hbr c0;have d1:=cB hbr c1;have d2:=cB hbr c2;have d3:=cB hbr c3;have d4:=cB hbr c4;have HT:=Zh (pq.o k hlt);have hsl:s<18446744073709551616:=by rw[hs.o]; exact af6.o k
   have hs1:=aqn.o k hlt;have acx:Hid (∀ x xa xc,_->_->_):=fun x xa xc hb h=>TP.o x xa xc k hlt hb h
   rw[<- hs.o]at HT;generalize cs.getD k cz=c at *;have RP:=fun x=>HCC.o x c
   generalize SK c=m at *;generalize aN c=CC at *;obtain⟨wb,hwb,hkb,hgb⟩:=aU wr #[.bool c.not,.int .i64 c.op,.int .i64 c.left,.bool c.const,.int .i64 c.right] 134;obtain⟨b0,b1,b2,b3,b4⟩:=hgb.k5;have hbw:=aA hbr hkb;have j0:=cB hbw dJ;have j1:=cB hbw dY;have j2:=cB hbw dH;have j3:=cB hbw dW;have j4:=cB hbw dZ;have j5:=cB hbw eU;have j6:=cB hbw eH;have j7:=cB hbw gy;have j8:=cB hbw fV;have j9:=cB hbw fZ;have j10:=cB hbw dz;have j11:=cB hbw dE;have j12:=cB hbw dA;have jV:=Zh hbw;obtain⟨aqo,cop,cleft,agk,agl⟩:=c;unfold aC.val at *;simp only at *;go_wp2;refine wH wb fun hS=>?_
   refine wt 0 (.int .u64 (s:Int)) hS ?_;refine wT 1 (.agg #[v0,v1,v2,v3,v4,v5,v6,v7,v8,v9,v10,v11,v12]) hS (fun x hx=>?_) ?_
   ·have e0:=lI hx j0 j1 j2 j3 j4 j5 j6 j7 j8 j9 j10 j11 j12;go_simp
   refine wT 2 (.agg #[.bool aqo,.int .i64 cop,.int .i64 cleft,.bool agk,.int .i64 agl]) hS (fun x hx=>?_) ?_
   ·have e0:=cR5 hx b0 b1 b2 b3 b4;go_simp
   refine wR 3 fun K hK=>?_
   go_simp;refine Xt (RP _) ?_;rintro e w3 ⟨b,rfl,hcc,hb3⟩;refine oT hK hS hb3 fun hS=>?_
   refine wR 4 fun K hK=>?_
   go_simp;refine Xt (acx.o _ _ _ (aA jV.o hS) hcc) ?_;rintro e w4 ⟨rfl,hb4⟩;refine oT hK hS hb4 fun hS=>?_
   refine wR 5 fun K hK=>?_
   go_simp;refine oA hK hS fun hS=>?_
   refine wR 6 fun K hK=>?_
   go_simp;refine Xt (jM w4.heap.size s m _ (by simp) (by simp) hsl hs1) ?_;rintro e w5 ⟨rfl,rfl⟩;refine hK.o _ _ hS fun hS=>?_
   refine wR 7 fun K hK=>?_
   go_simp;refine hK.o _ _ hS fun hS=>?_
   refine wD ?_
   try simp only[pU]
   have HBN:=Zh (aA jV.o hS);go_wp2;go_roundw
   case rel=>exact⟨k+1,by omega,by go_num,⟨s|||m,rfl,HT.o.symm⟩,HBN.o⟩
   case measure=>simp[intOf]; omega
  ·obtain rfl:k=cs.length:=by omega
   have HV:=Zh (hs.o.trans af7.o);have HB:=Zh (aA HC.o hbr);go_wp2;go_ret;exact⟨Qh (by rw[HV.o]),HB.o⟩
def jW(ts:List af)(q:ae)(l:List Int):Nat:=(l.map fun c=>(jT ts q.src.xs c).toNat).foldl max 0
theorem Ac(ts:List af)(q:ae)(hk:k<l.length):jW ts q (l.take (k+1))=max (jW ts q (l.take k)) (jT ts q.src.xs (l.getD k 0)).toNat:=by
 have e:l.getD k 0=l[k]:=by simp[List.getD,hk]
 unfold jW;rw[Qr hk,Qs,QZ,e];rfl
theorem Oa(ts:List af)(q:ae){cs:List aC}(h1:¬ 1<cs.length)(h0:0<cs.length)(hn:(cs.getD 0 cz).not=false)(h2:(cs.getD 0 cz).op≠1)(h3:(cs.getD 0 cz).op≠2):jE ts q.src.xs cs=jW ts q (aN (cs.getD 0 cz)):=by
 unfold jE jW aN;rw[Qz (by rw[hn]; rintro (h | h); exact h (by omega); cases h),Qz h2,Qz h3]
 cases hc:(cs.getD 0 cz).const with
 | true => rw[Qy rfl,Qz (by simp)]; simp
 | false => rw[Qz (by simp),Qy ⟨h3,rfl⟩]; simp
theorem TQ{ts:List af}{q:ae}(ok:Ok ts q)(h:gB ts q l)(k:Nat):jW ts q (l.take k)<=1000000:=by
 induction k with
 | zero => simp[jW]
 | succ k ih =>
  by_cases hk:k<l.length
  ·rw[Ac ts q hk];obtain⟨h0,h1⟩:=h _ (Z7 hk (d:=0));have:=(xw ok.cat ok.src h0 h1).2;omega
  ·rw[Xl (by omega)];rw[Xl (by omega)]at ih;exact ih
theorem Ob(f:au)(ts:List af)(q:ae)(ca:Option Addr)(cc:Nat)(cs:List aC)(w:World)(ok:Ok ts q)(hf:iF w f.ca (iP ts q))(hx:bH w ca cs)(h0:0<cs.length)(kS:gB ts q (cO cs)) :
  Cb 126 #[.agg (f.cells ts q),.agg #[.slice ca cs.length cc]] w (.int .u64 ((jE ts q.src.xs cs:Nat):Int)):=by
 obtain⟨cb,co,rfl,c0,c1,c2,c3,c4⟩:=hx.2 0 h0;have hcl:=hx.1;rw[QP,Zf]at c0 c1 c2 c3 c4;have Yh:gB ts q (aN (cs.getD 0 cz)):=fun c hc=>kS c (XC.2 ⟨_,Z7 h0,hc⟩)
 have HPC:Hid _:=@Oa ts q cs;have TR:Hid (jE ts q.src.xs cs=if cs.length≠1∨(cs.getD 0 cz).not=true then 2 else if (cs.getD 0 cz).op=1 then 3 else if (cs.getD 0 cz).op=2 then 10 else jE ts q.src.xs cs):=by
  show _=_
  unfold jE
  repeat' split
  all_goals rfl
 generalize jE ts q.src.xs cs=R at *;generalize cs.getD 0 cz=c at *;obtain⟨not,op,left,const,right⟩:=c;simp only at *;obtain⟨w1,hw1,hk1,hg1⟩:=aU w ((f.cells ts q)) 90;obtain⟨w2,hw2,hk2,hg2⟩:=aU w1 #[.slice (some (aD cb co)) cs.length cc] 132;obtain⟨w3,hw3,hk3,hg3⟩:=aU w2 #[.bool not,.int .i64 op,.int .i64 left,.bool const,.int .i64 right] 134;have hc2:=aA hk1 hk2;have hc3:=aA hc2 hk3;have acy:=aA hk2 hk3;have d0:=cB hc2 c0;have d1:=cB hc2 c1;have d2:=cB hc2 c2;have d3:=cB hc2 c3;have d4:=cB hc2 c4;have m0:w2.cell? (aD w1.heap.size 0)=some (.slice (some (aD cb co)) cs.length cc):=hg2.cell 0;have m0':=cB hk3 m0;have b0:w3.cell? (aD w2.heap.size 0)=some (.bool not):=hg3.cell 0;have b1:w3.cell? (aD w2.heap.size 1)=some (.int .i64 op):=hg3.cell 1;have b2:w3.cell? (aD w2.heap.size 2)=some (.int .i64 left):=hg3.cell 2;have b3:w3.cell? (aD w2.heap.size 3)=some (.bool const):=hg3.cell 3;have b4:w3.cell? (aD w2.heap.size 4)=some (.int .i64 right):=hg3.cell 4;have q7:w1.cell? (aD w.heap.size 7)=some (.slice f.ca (iP ts q).length f.cc):=hg1.cell 7;have q7':=cB acy q7;have HC:Hid _:=hc3;have nG:Hid _:=hf.below hc3;have aqp:=hf.1;have RP:=rG ⟨not,op,left,const,right⟩ w3;unfold aC.val at RP;simp only at RP;have HXC:Hid (∀ k,k<(aN ⟨not,op,left,const,right⟩).length->∃ n kd:Nat,(aN ⟨not,op,left,const,right⟩).getD k 0=n/\n<(iP ts q).length/\((iP ts q).getD n (0,0)).2=(kd:Int)/\kd=(jT ts q.src.xs ((aN ⟨not,op,left,const,right⟩).getD k 0)).toNat/\kd<=1000000):=fun k hk=>by
  obtain⟨h0,h1⟩:=Yh _ (Z7 hk (d:=0));have h2:=zg ok;have h3:=xw ok.cat ok.src h0 h1;refine⟨((aN ⟨not,op,left,const,right⟩).getD k 0).toNat,(jT ts q.src.xs ((aN ⟨not,op,left,const,right⟩).getD k 0)).toNat,by omega,by omega,?_,rfl,by omega⟩;have e:((iP ts q).getD ((aN ⟨not,op,left,const,right⟩).getD k 0).toNat (0,0)).2=jT ts q.src.xs ((aN ⟨not,op,left,const,right⟩).getD k 0):=rfl;rw[e];omega
 have HKT:Hid (∀ k,k<(aN ⟨not,op,left,const,right⟩).length->jW ts q ((aN ⟨not,op,left,const,right⟩).take (k+1))=max (jW ts q ((aN ⟨not,op,left,const,right⟩).take k)) (jT ts q.src.xs ((aN ⟨not,op,left,const,right⟩).getD k 0)).toNat):=fun k hk=>Ac ts q hk
 have HKL:Hid (∀ k,jW ts q ((aN ⟨not,op,left,const,right⟩).take k)<=1000000):=fun k=>TQ ok Yh k
 have MM:Hid (jW ts q ((aN ⟨not,op,left,const,right⟩).take (aN ⟨not,op,left,const,right⟩).length)=jW ts q (aN ⟨not,op,left,const,right⟩)):=by show _=_; rw[QA]
 have TN:Hid (jW ts q ((aN ⟨not,op,left,const,right⟩).take 0)=0):=rfl;have aqr:Hid ((aN ⟨not,op,left,const,right⟩).length<=2):=Gp _;generalize aN ⟨not,op,left,const,right⟩=CC at *;generalize f.cells ts q=FC at *;obtain⟨KT,hKT⟩:∃ KT:Nat->Nat,KT=fun k=>jW ts q (CC.take k):=⟨_,rfl⟩
 have Yi:Hid (∀ k,k<CC.length->KT (k+1)=max (KT k) (jT ts q.src.xs (CC.getD k 0)).toNat):=by rw[hKT]; exact HKT.o
 have Yj:Hid (∀ k,KT k<=1000000):=by rw[hKT]; exact HKL.o
 have TU:Hid (KT CC.length=jW ts q CC):=by rw[hKT]; exact MM.o
 have Yk:Hid (KT 0=0):=by rw[hKT]; exact TN.o
 clear hKT HKT HKL MM TN c0 c1 c2 c3 c4 hk1 hk2 hk3 hc2 hc3 acy hg1 hg2 hg3 hf hx kS Yh ok;by_cases h1:1<cs.length
 ·have HV:Hid (R=2):=by show _=_; rw[TR.o,Qy (.inl (by omega))]
  clear TR HPC HXC Yi Yj TU Yk nG RP;go_enter Tryz.func126,Tryz.ntmps126;go_wp2;go_ret;exact⟨Qh (by rw[HV.o]; rfl),HC.o⟩
 cases not with
 | true =>
  have HV:Hid (R=2):=by show _=_; rw[TR.o,Qy (.inr rfl)]
  clear TR HPC HXC Yi Yj TU Yk nG RP;go_enter Tryz.func126,Tryz.ntmps126;go_wp2;go_ret;exact⟨Qh (by rw[HV.o]; rfl),HC.o⟩
 | false =>
  have hn1:¬ (cs.length≠1∨false=true):=by rintro (h | h); exact h (by omega); cases h
  by_cases o1:op=1
  ·have HV:Hid (R=3):=by show _=_; rw[TR.o,Qz hn1,Qy o1]
   subst o1;clear TR HPC HXC Yi Yj TU Yk nG RP hn1;go_enter Tryz.func126,Tryz.ntmps126;go_wp2;go_ret;exact⟨Qh (by rw[HV.o]; rfl),HC.o⟩
  by_cases o2:op=2
  ·have HV:Hid (R=10):=by show _=_; rw[TR.o,Qz hn1,Qz o1,Qy o2]
   subst o2;clear TR HPC HXC Yi Yj TU Yk nG RP hn1;go_enter Tryz.func126,Tryz.ntmps126;go_wp2;go_ret;exact⟨Qh (by rw[HV.o]; rfl),HC.o⟩
  have HV:Hid (R=jW ts q CC):=HPC.o h1 h0 rfl o1 o2;have kb1:(op==1)=false:=by simp[o1]
  have kb2:(op==2)=false:=by simp[o2]
  rw[<- TU.o]at HV;clear TR HPC hn1 o1 o2 TU;generalize jT ts q.src.xs=KN at *;generalize iP ts q=CS at *;go_enter Tryz.func126,Tryz.ntmps126;go_wp2_with fail;refine RP.mono ?_;clear RP hw1 hw2 hw3;rintro e w4 ⟨xb,rfl,hxi,hb4⟩;have aqs:=cB hb4 q7';have HC4:Hid _:=aA HC.o hb4;have aqt:Hid (iF w4 f.ca CS):=iF.below hb4 nG.o;have HXI:Hid _:=hxi;have hxl:=aqr.o;clear hb4 hxi nG HC m0 m0' b0 b1 b2 b3 b4 q7 q7' d0 d1 d2 d3 d4;go_wp2;go_loop [6,30] (fun sv iv=>∃ k:Nat,k<=CC.length/\iv=.int .i64 k/\(∃ s:Nat,sv=.int .u64 (s:Int)/\Hid (s=KT k))) (fun _ iv=>CC.length-(intOf iv).toNat)
  case atStart=>exact⟨0,Q8 _,rfl,⟨0,rfl,Yk.o.symm⟩⟩
  case round=>
   obtain⟨k,hk,rfl,⟨s,rfl,hs⟩⟩:=hrel;by_cases hlt:k<CC.length
   ·obtain⟨xb',xo,e,MK⟩:=Qj HXI.o hlt
    cases e
    have hck:=MK k hlt;obtain⟨n,kd,hn,hnl,hcn,hkd,hkl⟩:=HXC.o k hlt;have HT:Hid _:=Yi.o k hlt;have hsl:s<=1000000:=by rw[hs.o]; exact Yj.o k
    obtain⟨yb,yo,hca,_,y1⟩:=(show iF w4 f.ca CS from aqt.o).2 n hnl;rw[hca]at aqs;rw[hn,QQ]at hck;rw[hcn]at y1;rw[<- hs.o,<- hkd]at HT;clear MK hca hcn hs hkd hn;generalize KN (CC.getD k 0)=kk at *;have hmx:max (s:Int) (kd:Int)=((max s kd:Nat):Int):=by omega
    have hif:(if (s:Int)<(kd:Int) then (kd:Int) else (s:Int))=((max s kd:Nat):Int):=by split <;> omega
    have aya:(if (kd:Int)<(s:Int) then (s:Int) else (kd:Int))=((max s kd:Nat):Int):=by split <;> omega
    go_wp2;go_round
    case rel=>exact⟨k+1,by omega,by go_num,⟨max s kd,rfl,HT.o.symm⟩⟩
    case measure=>simp[intOf]; omega
   ·obtain rfl:k=CC.length:=by omega
    have TL:Hid (s=R):=by show _=_; rw[hs.o,HV.o]
    clear hs HV;go_wp2;go_ret;exact⟨Qh (by rw[TL.o]),HC4.o⟩
theorem lQ(h:W.ownsRow base e sz v n xs)(hb:v.ownBlock=some b):∃ cur,W.heap[b]? = some (.cells cur e (0,0)):=by
 rcases h.2 with⟨rfl,_⟩ | ⟨g,cap,cur,rfl,_,h3,_⟩
 ·cases hb
 ·cases hb
  exact⟨cur,h3⟩
theorem mY(ht:e≠t)(h:W.ownsRow base e sz v n xs){c:Array Value}(hg:GB W b t c):v.ownBlock≠some b:=fun hb=>by
 obtain⟨cur,hc⟩:=lQ h hb;unfold GB at hg;rw[hc]at hg;injection hg with hg;injection hg with _ hg;exact ht hg
theorem xG(ht:e≠t){base' sz':Nat}(h:W.ownsRow base e sz v n xs)(h':W.ownsRow base' t sz' v' n' xs')(hb:v.ownBlock=some b):v'.ownBlock≠some b:=fun hb'=>by
 obtain⟨cur,hc⟩:=lQ h hb;obtain⟨cur',hc'⟩:=lQ h' hb';rw[hc]at hc';injection hc' with hg;injection hg with _ hg;exact ht hg
theorem xH{w5:World}{bf:Nat}{tF:TypeId}(ht:e≠tF){cells:Array Value}(hg:GB W bf tF cells)(ho:W.ownsRow base e sz v n xs)(ug:w5.ownsRow base e sz v' n' xs')(hk:Kept (fun b=>v.ownBlock≠some b) W w5)
  (hat:v'.ownBlock=v.ownBlock∨v'.ownBlock=some (W.heap.size+1)) (i:Nat) :
  GB w5 bf tF cells/\GB (w5.setCell (aD bf i) v') bf tF (cells.setIfInBounds i v')/\(w5.setCell (aD bf i) v').ownsRow base e sz v' n' xs'/\Kept (fun b=>b≠bf/\v.ownBlock≠some b) W (w5.setCell (aD bf i) v'):=by
 have hne:=mY ht ho hg;have hg5:=hg.keep hk hne;have hlt:=hg.lt;have hne':v'.ownBlock≠some bf:=fun e=>by
  rcases hat with h | h
  ·rw[h]at e; exact hne e
  ·rw[h]at e; injection e with e; omega
 refine⟨hg5,hg5.set i v',?_,(hk.mono fun _ _ h=>h.2).trans (ZL _ _ _ (fun h=>h.1 rfl))⟩;exact ZN ug (s:=fun b=>b≠bf) (ZL _ _ _ (fun h=>h rfl)) (fun g hg' e=>hne' (by rw[hg',e]))
theorem TV(ts:List af)(src:List Int)(k m:Nat):(bS ts src k++((List.range (m+1)).map fun m=>(k,(ts.getD (src.getD k 0).toNat tz).kd m))).flatMap jw=(bS ts src k++((List.range m).map fun m=>(k,(ts.getD (src.getD k 0).toNat tz).kd m))).flatMap jw++jw (k,(ts.getD (src.getD k 0).toNat tz).kd m):=by
 rw[Q9,Qs,<- QO,Za];simp
def mG(ts:List af)(src:List Int)(k:Nat):List Nat:=(List.range k).map fun (k:Nat)=>rE ts src (k:Int)
theorem J3(ts:List af)(src:List Int)(k:Nat):mG ts src (k+1)=mG ts src k++[rE ts src (k:Int)]:=by
 unfold mG;rw[Q9,Qs];rfl
theorem nQ(ts:List af)(src:List Int)(k:Nat):(mG ts src k).length=k:=by unfold mG; simp
theorem zh{ts:List af}{src:List Int}(hc:gI ts=true)(ha:bN src ts.length=true)(h:src.length<=64):∀ k,k<=src.length->(bS ts src k).length<=4*k
 | 0,_ => by simp[bS]
 | k+1,hk => by
  have ih:=zh hc ha h k (by omega);rw[kN,Zb,Zc,Zd];obtain⟨h0,h1⟩:=xB ha (k:=k) (by omega);have ht:=xu hc (i:=(src.getD k 0).toNat) (by omega);unfold dV at ht;rw[QJ]at ht;omega
