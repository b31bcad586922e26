import Derived.Test.YtgemohlbjehmbaaGreatDoorF02
import Derived.Test.YtgemohlbjehmbaaGreatDoorF14
set_option linter.all false
set_option maxRecDepth 100000
set_option maxHeartbeats 16000000
namespace Go.Proofs.Zz
open Go.RowKit Go.Shelf
variable {pl:List ah} {i m:Nat} {n:ah}
def hasB(ar:Nat)(sb cb kb ob:Bool)(n:ah):List Bool:=
 [decide ((ar:Int)<1)&&(n.l != 0),decide ((ar:Int)<2)&&(n.r != 0),!sb&&(n.source != 0),!kb&&(n.key != 0),!cb&&decide (0<n.cl.xs.length),!ob&&decide (0<n.co.xs.length)]
theorem aae(n:ah):(!((hasB (arity n.kind) (decide (n.kind=1)) (decide (2<=n.kind/\n.kind<=5)) (decide (n.kind=4∨n.kind=5)) (decide (n.kind=6)) n).any id))=nN n:=by unfold hasB nN;rw[QX];simp only[List.any_cons,List.any_nil,id,Q4,Bool.or_eq_false_iff,Bool.and_eq_false_iff,Qs,Qt,Bool.not_eq_false',bne_eq_false_iff_eq];grind
theorem Ie(n:ah)(ar:Nat)(sb cb kb ob:Bool)(w:World)(hcl:n.cl.xs.length<=1152921504606846976)(hco:n.co.xs.length<=1152921504606846976) :
  Cb 100 #[.agg n.cells,.agg #[.int .i64 (ar:Int),.bool sb,.bool cb,.bool kb,.bool ob]] w (.bool (!((hasB ar sb cb kb ob n).any id))):=by
 obtain⟨Q,R,p,k⟩:=bn w n.cells 75;obtain⟨S,T,q,s⟩:=bn Q #[.int .i64 (ar:Int),.bool sb,.bool cb,.bool kb,.bool ob] 178;have g:=q;have m:=aF p g;have i:=k.of (g.block _ k.lt);have fI:=i.at 1;have eQ:=i.at 2;have fD:=i.at 3;have fJ:=i.at 4;have fQ:=i.at 5;have fM:=i.at 6;have I:=s;obtain⟨kS,mG,mH,oN,lI⟩:=I.k5;have j:=Zh m;obtain⟨t,C⟩:∃ B,B=(decide ((ar:Int)<1)&&(n.l != 0)):=⟨_,rfl⟩;obtain⟨u,D⟩:∃ B,B=(decide ((ar:Int)<2)&&(n.r != 0)):=⟨_,rfl⟩;obtain⟨v,E⟩:∃ B,B=(!sb&&(n.source != 0)):=⟨_,rfl⟩;obtain⟨y,F⟩:∃ B,B=(!kb&&(n.key != 0)):=⟨_,rfl⟩;obtain⟨z,G⟩:∃ B,B=(!cb&&decide (0<n.cl.xs.length)):=⟨_,rfl⟩;obtain⟨A,H⟩:∃ B,B=(!ob&&decide (0<n.co.xs.length)):=⟨_,rfl⟩;have a:Hid (hasB ar sb cb kb ob n=[t,u,v,y,z,A]):=by show _=_; unfold hasB; rw[C,D,E,F,G,H]
 have J:=Zh C;have K:=Zh D;have M:=Zh E;have N:=Zh F;have O:=Zh G;have P:=Zh H;generalize hasB ar sb cb kb ob n=L at *;generalize Z:n.cells=NC at *;clear C D E F G H Z k s i I p q m g;obtain⟨nk,U,V,ns,⟨na,nc,W⟩,X,⟨oa,oc,Y⟩⟩:=n;unfold ai.val at *;simp only at *;go_enter Tryz.func100,Tryz.ntmps100;go_upto_region 1 with fail;go_cut [5] from 6 to 13 (λc f=>c=.bool t/\f=S)
 case first=>
  by_cases d:(ar:Int)<1
  ·have b:t=(U != 0):=by rw[J.o,Qv d,Qw]
   go_wp2_with fail;go_meet;exact⟨by rw[b],rfl⟩
  ·have b:t=false:=by rw[J.o,ZW d,Bool.false_and]
   go_wp2_with fail;go_meet;exact⟨by rw[b],rfl⟩
 case rest=>
 obtain⟨rfl,rfl⟩:=hcut
 cases hB1:t with
 | true =>
  rw[hB1]at a;have e:Hid ((!L.any id)=false):=by show _=_; rw[a.o]; simp
  clear a;go_wp2;go_ret;exact⟨Qd e.o.symm,j.o⟩
 | false =>
 rw[hB1]at a;clear hB1;go_upto_region 2 with fail;go_cut [5] from 14 to 21 (λc f=>c=.bool u/\f=wc)
 case first=>
  by_cases d:(ar:Int)<2
  ·have b:u=(V != 0):=by rw[K.o,Qv d,Qw]
   go_wp2_with fail;go_meet;exact⟨by rw[b],rfl⟩
  ·have b:u=false:=by rw[K.o,ZW d,Bool.false_and]
   go_wp2_with fail;go_meet;exact⟨by rw[b],rfl⟩
 case rest=>
 obtain⟨rfl,rfl⟩:=hcut
 cases hB2:u with
 | true =>
  rw[hB2]at a;have e:Hid ((!L.any id)=false):=by show _=_; rw[a.o]; simp
  clear a;go_wp2;go_ret;exact⟨Qd e.o.symm,j.o⟩
 | false =>
 rw[hB2]at a;clear hB2;go_upto_region 4 with fail;go_cut [22] from 23 to 30 (λc f=>c=.bool v/\f=wc)
 case first=>
  cases d:sb with
  | false =>
   subst d;have b:v=(ns != 0):=by rw[M.o]; rfl
   go_wp2_with fail;go_meet;exact⟨by rw[b],rfl⟩
  | true =>
   subst d;have b:v=false:=by rw[M.o]; rfl
   go_wp2_with fail;go_meet;exact⟨by rw[b],rfl⟩
 case rest=>
 obtain⟨rfl,rfl⟩:=hcut
 cases hB3:v with
 | true =>
  rw[hB3]at a;have e:Hid ((!L.any id)=false):=by show _=_; rw[a.o]; simp
  clear a;go_wp2;go_ret;exact⟨Qd e.o.symm,j.o⟩
 | false =>
 rw[hB3]at a;clear hB3;go_upto_region 5 with fail;go_cut [22] from 31 to 38 (λc f=>c=.bool y/\f=wc)
 case first=>
  cases d:kb with
  | false =>
   subst d;have b:y=(X != 0):=by rw[N.o]; rfl
   go_wp2_with fail;go_meet;exact⟨by rw[b],rfl⟩
  | true =>
   subst d;have b:y=false:=by rw[N.o]; rfl
   go_wp2_with fail;go_meet;exact⟨by rw[b],rfl⟩
 case rest=>
 obtain⟨rfl,rfl⟩:=hcut
 cases hB4:y with
 | true =>
  rw[hB4]at a;have e:Hid ((!L.any id)=false):=by show _=_; rw[a.o]; simp
  clear a;go_wp2;go_ret;exact⟨Qd e.o.symm,j.o⟩
 | false =>
 rw[hB4]at a;clear hB4;go_upto_region 7 with fail;go_cut [39] from 40 to 48 (λc f=>c=.bool z/\f=wc)
 case first=>
  cases d:cb with
  | false =>
   subst d;have b:z=(decide (0<W.length)):=by rw[O.o]; rfl
   go_wp2_with fail;go_meet;exact⟨by rw[b],rfl⟩
  | true =>
   subst d;have b:z=false:=by rw[O.o]; rfl
   go_wp2_with fail;go_meet;exact⟨by rw[b],rfl⟩
 case rest=>
 obtain⟨rfl,rfl⟩:=hcut
 cases hB5:z with
 | true =>
  rw[hB5]at a;have e:Hid ((!L.any id)=false):=by show _=_; rw[a.o]; simp
  clear a;go_wp2;go_ret;exact⟨Qd e.o.symm,j.o⟩
 | false =>
 rw[hB5]at a;clear hB5;go_upto_region 8 with fail;go_cut [39] from 49 to 57 (λc f=>c=.bool A/\f=wc)
 case first=>
  cases d:ob with
  | false =>
   subst d;have b:A=(decide (0<Y.length)):=by rw[P.o]; rfl
   go_wp2_with fail;go_meet;exact⟨by rw[b],rfl⟩
  | true =>
   subst d;have b:A=false:=by rw[P.o]; rfl
   go_wp2_with fail;go_meet;exact⟨by rw[b],rfl⟩
 case rest=>
 obtain⟨rfl,rfl⟩:=hcut
 cases hB6:A with
 | true =>
  rw[hB6]at a;have e:Hid ((!L.any id)=false):=by show _=_; rw[a.o]; simp
  clear a;go_wp2;go_ret;exact⟨Qd e.o.symm,j.o⟩
 | false =>
 rw[hB6]at a;clear hB6;have e:Hid ((!L.any id)=true):=by show _=_; rw[a.o]; rfl
 clear a;go_wp2;go_ret;exact⟨Qd e.o.symm,j.o⟩
def yQ(pl:List ah)(i j:Nat):Nat:=gy i λm=>(inpN pl m).count j
theorem Jj(pl:List ah)(i j:Nat):yQ pl (i+1) j=yQ pl i j+(inpN pl i).count j:=QU _ _
theorem ag3(pl:List ah)(i:Nat):(inpN pl i).length<=2:=by unfold inpN;grind
theorem U4(pl:List ah)(j:Nat):∀ i,yQ pl i j<=2*i
 | 0 => by simp[yQ,gy]
 | i+1 => by rw[Jj];have h1:=U4 pl j i;have h2:(inpN pl i).count j<=(inpN pl i).length:=List.count_le_length;have h3:=ag3 pl i;omega
theorem qw(k:Int):arity k<=2:=by unfold arity; split <;> (try split) <;> omega
def oz(n:ah)(i:Nat):Bool:=(aV n).all λx=>decide (0<=x)&&decide (x<(i:Int))
theorem aaf(n:ah)(i:Nat):gK n i=(decide (1<=n.kind)&&decide (n.kind<=10)&&nN n&&oz n i):=by
 unfold gK oz aV;have b:=qw n.kind;generalize arity n.kind=a at *;rw[Bool.and_assoc];congr 1
 match a,b with
 | 0,_ => simp
 | 1,_ => simp
 | 2,_ => simp
theorem al5(h:oz (pl.getD i nz) i=true):inpN pl i=(aV (pl.getD i nz)).map Int.toNat:=by
 unfold oz aV at h;unfold inpN aV;simp only;have b:=qw (pl.getD i nz).kind;generalize arity (pl.getD i nz).kind=a at *
 match a,b with
 | 0,_ => simp
 | 1,_ =>
  simp at h;simp[h]
 | 2,_ =>
  simp at h;simp[h]
def Aw(pl:List ah)(i m j:Nat):Nat:=yQ pl i j+(((aV (pl.getD i nz)).take m).map Int.toNat).count j
theorem aag(pl:List ah)(i:Nat)(hm:m<(aV (pl.getD i nz)).length)(j:Nat):Aw pl i (m+1) j=Aw pl i m j+if j=((aV (pl.getD i nz)).getD m 0).toNat then 1 else 0:=by
 unfold Aw;generalize aV (pl.getD i nz)=L at *;have e:L.getD m 0=L[m]:=by simp[List.getD,hm]
 rw[Qh hm,Qi,List.count_append,e];grind
theorem aah(pl:List ah)(i j:Nat):Aw pl i 0 j=yQ pl i j:=by unfold Aw; simp
theorem adY(h:oz (pl.getD i nz) i=true)(j:Nat):Aw pl i (aV (pl.getD i nz)).length j=yQ pl (i+1) j:=by unfold Aw;rw[QT,Jj,al5 h]
theorem qQ(n:ah):(aV n).length<=2:=by unfold aV; rw[ZZ]; simp; omega
theorem aai(hm:m<(aV n).length)(h:(aV n).getD m 0<0∨(i:Int)<=(aV n).getD m 0):oz n i=false:=by unfold oz;rw[List.all_eq_false];refine⟨_,Zr hm (d:=0),?_⟩;grind
theorem aaj{n:ah}{i:Nat}(h:∀ m,m<(aV n).length->0<=(aV n).getD m 0/\(aV n).getD m 0<(i:Int)):oz n i=true:=by unfold oz;rw[Qk];intro x a;obtain⟨m,b,rfl⟩:=Qp a;grind
theorem adZ{pl:List ah}{k:Nat}(hk:k<pl.length)(h:gK (pl.getD k nz) k=false):eG pl=false:=by unfold eG;grind
theorem aak(h1:1<=pl.length)(h64:pl.length<=64)(h:∀ i,i<pl.length->gK (pl.getD i nz) i=true):eG pl=xB pl:=by unfold eG;grind
theorem ad1{pl:List ah}{k:Nat}(hk:k<pl.length-1)(h:yQ pl pl.length k≠1):xB pl=false:=by unfold xB;rw[List.all_eq_false];exact⟨k,Q0.2 hk,by show ¬ decide (yQ pl pl.length k=1)=true; rw[ZW h]; simp⟩
theorem aal{pl:List ah}(h:∀ k,k<pl.length-1->yQ pl pl.length k=1):xB pl=true:=by unfold xB;rw[Qk];exact λk a=>Qv (h k (Q0.1 a))
theorem ad3(n:ah)(w:World)(h1:1<=n.kind)(hcl:n.cl.xs.length<=1152921504606846976)(hco:n.co.xs.length<=1152921504606846976) :
  Cb 100 #[.agg n.cells,.agg (jg n.kind)] w (.bool (nN n)):=by have h:=Ie n (arity n.kind) (decide (n.kind=1)) (decide (2<=n.kind/\n.kind<=5)) (decide (n.kind=4∨n.kind=5)) (decide (n.kind=6)) w hcl hco;rw[aae]at h;unfold jg;rw[ru h1];exact h
theorem TM(po:Option Addr)(pc:Nat)(pl:List ah)(w:World)(hp:kI w po pl)(hs:dn w 0) :
  Cb 62 #[.slice po pl.length pc] w (.bool (eG pl)):=by
 have bL:=hp.1;by_cases z0:pl.length<1
 ·have d:Hid (eG pl=false):=by show _=_; unfold eG; rw[ZW (by omega)]; rfl
  have ay:(pl.length:Int)<1:=by omega
  generalize eG pl=R at *;clear hp hs;go_enter Tryz.func62,Tryz.ntmps62;go_wp2;go_ret;exact⟨Qd d.o.symm,Qm _ _⟩
 by_cases z1:64<pl.length
 ·have d:Hid (eG pl=false):=by show _=_; unfold eG; grind
  have aY:(64:Int)<(pl.length:Int):=by omega
  have ay:¬ (pl.length:Int)<1:=by omega
  generalize eG pl=R at *;clear hp hs;go_enter Tryz.func62,Tryz.ntmps62;go_wp2;go_ret;exact⟨Qd d.o.symm,Qm _ _⟩
 have aZ:=run_make_row' (P:=Tryz.prog) 22 3 (.int .i64 0) 8 Tryz.underlying22 Tryz.info3 rfl .i64 .i64 pl.length (by omega) (by omega);obtain⟨w1,O⟩:∃ x,w.alloc (.cells (madeCells #[.int .i64 0] pl.length) 3)=x:=⟨_,rfl⟩;have az:w1.rowIs w.heap.size 3 pl.length (λ_=>.int .i64 0):=by rw[<- O]; exact World.rowIs_made _ _ _ _
 have aA:Bw w w1:=by rw[<- O]; exact fq _ _
 have bf:w.heap.size<w1.heap.size:=by rw[<- O]; simp
 have V:Hid (∀ x,Kept (λb=>b≠w.heap.size) w1 x->Bw w x/\kI x po pl/\dn x 0):=λx hk=>by have F:=Below.trans aA (hk.below (Nat.le_of_lt bf) (λb F=>Nat.ne_of_lt F));exact⟨F,hp.below F,hs.below F⟩
 have ay:¬ (pl.length:Int)<1:=by omega
 have aY:¬ (64:Int)<(pl.length:Int):=by omega
 have B:Hid _:=@adZ pl;have aB:=Zh (aak (pl:=pl) (by omega) (by omega));have aC:Hid _:=@ad1 pl;have aG:Hid _:=@aal pl;have aH:=hd az;have Gs:Hid (∀ i j,yQ pl i j<=2*i):=λi j=>U4 pl j i;generalize eG pl=R at *;generalize xB pl=OB at *;clear hp hs az aA z0 z1;go_enter Tryz.func62,Tryz.ntmps62;go_wp2;clear O aZ;go_loopw [23] (λiv wr=>∃ k:Nat,k<=pl.length/\iv=.int .i64 k/\Hid (∀ i,i<k->gK (pl.getD i nz) i=true)/\Hid (wr.rowIs w.heap.size 3 pl.length (λj=>.int .i64 ((yQ pl k j:Nat):Int)))/\Hid (Kept (λb=>b≠w.heap.size) w1 wr)) (λiv _=>pl.length-(intOf iv).toNat)
 case atStart=>exact⟨0,QK _,rfl,λj g=>absurd g (by omega),aH.o,Q5 _ _⟩
 case round=>
  obtain⟨k,hk,rfl,HJ,Q,uR⟩:=hrel;obtain⟨S,ak,au⟩:=V.o wr uR.o;by_cases aX:k<pl.length
  ·obtain⟨pb,bR,rfl,c0,c1,c2,c3,c4,c5,c6,i1,i2⟩:=ak.2 k aX;have C:Hid (gK (pl.getD k nz) k=false->R=false):=λe=>B.o aX e
   have W:Hid (gK (pl.getD k nz) k=true->∀ i,i<k+1->gK (pl.getD i nz) i=true):=λh i hi=>by
    rcases Z0 i k with U | U
    ·exact HJ.o i U
    grind
   have f:=Zh (aaf (pl.getD k nz) k);have r:Hid (∀ m,m<(aV (pl.getD k nz)).length->((aV (pl.getD k nz)).getD m 0<0∨(k:Int)<=(aV (pl.getD k nz)).getD m 0)->oz (pl.getD k nz) k=false):=λm hm h=>aai hm h;have p:Hid _:=@aaj (pl.getD k nz) k;have Rw:Hid (∀ m,m<(aV (pl.getD k nz)).length->∀ j,Aw pl k (m+1) j=Aw pl k m j+if j=((aV (pl.getD k nz)).getD m 0).toNat then 1 else 0):=λm hm j=>aag pl k hm j;have Y:Hid (oz (pl.getD k nz) k=true->∀ j,Aw pl k (aV (pl.getD k nz)).length j=yQ pl (k+1) j):=λh j=>adY h j;have uH:Hid (∀ m j,Aw pl k m j<=2*k+2):=λm j=>by unfold Aw;have h1:=Gs.o k j;have h2:(((aV (pl.getD k nz)).take m).map Int.toNat).count j<=(((aV (pl.getD k nz)).take m).map Int.toNat).length:=List.count_le_length;rw[QQ,ZZ]at h2;have h3:=qQ (pl.getD k nz);omega
   have Z:Hid (wr.rowIs w.heap.size 3 pl.length (λj=>.int .i64 ((Aw pl k 0 j:Nat):Int))):=Q.o.congr (λj _=>by rw[aah]);have G:Hid (∀ x,1<=(pl.getD k nz).kind->_):=λx h1=>ad3 (pl.getD k nz) x h1 i1.1 i2.1;have UL:Hid (∀ x,dn x 0->1<=(pl.getD k nz).kind->(pl.getD k nz).kind<=10->_):=λx hs h1 bJ=>zP (pl.getD k nz) x hs h1 bJ;have bg:=Zh (qQ (pl.getD k nz));generalize aV (pl.getD k nz)=L at *;generalize oz (pl.getD k nz) k=AB at *;generalize gK (pl.getD k nz) k=SB at *;generalize nN (pl.getD k nz)=MB at *;generalize Aw pl k=CI at *;generalize pl.getD k nz=n at *;obtain⟨nk,nl,nr,ns,⟨na,nc,nx⟩,ny,⟨oa,oc,ox⟩⟩:=n;unfold ah.cells ai.val at *;simp only at *;clear i1 i2 HJ Q B ak;obtain⟨wb,bH,T,aS⟩:=bn wr #[.int .i64 nk,.int .i64 nl,.int .i64 nr,.int .i64 ns,.slice na nx.length nc,.int .i64 ny,.slice oa ox.length oc] 75;obtain⟨y,m1,m2,m3,m4,m5,m6⟩:=aS.k7;have jo:=Zh (aF S T);have aa:=Zh T;have ae:=Zh (au.below T);clear aS T S au;by_cases b1:nk<1
   ·have d:=Zh (C.o (by rw[f.o,ZW (by omega)]; rfl));clear f C W r p Rw Y uH G UL;go_wp2;refine Qq (by kernel_rfl) (by kernel_rfl) ?_;refine qS (.pointer (some (aD wr.heap.size 0))) ?_;refine qC (.int .i64 nk) y ?_;refine qS (.bool true) ?_;go_big_quiet_want;refine⟨.bool true,λx l=>?_,?_⟩
    ·go_simp
    simp only[pU];go_big_quiet_on;go_big_quiet_skip;try simp only[pU]
    iterate 2 (go_big_quiet_skip; try simp only[pU])
    refine qS (.bool true) ?_;go_big_quiet_want;refine⟨.bool true,λx l=>?_,?_⟩
    ·go_simp
    simp only[pU];go_big_quiet_on;go_big_quiet_skip;try simp only[pU]
    iterate 6 (go_big_quiet_skip; try simp only[pU])
    refine qS (.bool true) ?_;refine Z8 ?_;intro w2 a;have D:=Zh (aF jo.o a);clear a;go_wp2;go_ret;exact⟨Qd d.o.symm,D.o⟩
   by_cases b2:10<nk
   ·have d:=Zh (C.o (by rw[f.o,ZW (show ¬ nk<=10 by omega),Bool.and_false]; rfl));clear f C W r p Rw Y uH G UL;go_wp2;refine Qq (by kernel_rfl) (by kernel_rfl) ?_;refine qS (.pointer (some (aD wr.heap.size 0))) ?_;refine qC (.int .i64 nk) y ?_;refine qS (.bool false) ?_;refine qS (.bool false) ?_;refine qS (.pointer (some (aD wr.heap.size 0))) ?_;refine qC (.int .i64 nk) y ?_;refine qS (.bool true) ?_;refine qS (.bool true) ?_;go_big_quiet_want;refine⟨.bool true,λx l=>?_,?_⟩
    ·go_simp
    simp only[pU];go_big_quiet_on;go_big_quiet_skip;try simp only[pU]
    iterate 6 (go_big_quiet_skip; try simp only[pU])
    refine qS (.bool true) ?_;refine Z8 ?_;intro w2 a;have D:=Zh (aF jo.o a);clear a;go_wp2;go_ret;exact⟨Qd d.o.symm,D.o⟩
   have H:=λx=>G.o x (by omega);have af:=λx hs=>UL.o x hs (by omega) (by omega);obtain⟨K,rfl⟩:=ZV (show 0<=nk by omega);have bq:K<=10:=by omega
   obtain⟨t0,t1,t2,t3,t4⟩:=dn.get ae.o bq;obtain⟨s0,s1,s2,s3,s4,aT,e0,e1,e2,e3,e4⟩:∃ s0 s1 s2 s3 s4,jg (K:Int)=#[s0,s1,s2,s3,s4]/\s0=.int .i64 (zO K)/\s1=.bool (decide ((K:Int)=1))/\s2=.bool (decide (2<=(K:Int)/\(K:Int)<=5))/\s3=.bool (decide ((K:Int)=4∨(K:Int)=5))/\s4=.bool (decide ((K:Int)=6)):=⟨_,_,_,_,_,rfl,rfl,rfl,rfl,rfl,rfl⟩;rw[<- e0]at t0;rw[<- e1]at t1;rw[<- e2]at t2;rw[<- e3]at t3;rw[<- e4]at t4;rw[QL]at t0 t1 t2 t3 t4;rw[aT]at H;have aI:decide (1<=(K:Int))=true:=Qv (by omega);have aJ:decide ((K:Int)<=10)=true:=Qv (by omega);rw[aI,aJ]at f;clear e0 e1 e2 e3 e4 aT G UL aI aJ;have bM:¬ (11:Int)<=(K:Int):=by omega
   cases MB with
   | false =>
    have d:=Zh (C.o (by rw[f.o]; rfl));clear f C W r p Rw Y uH af;go_wp2;refine Qq (by kernel_rfl) (by kernel_rfl) ?_;refine qS (.pointer (some (aD wr.heap.size 0))) ?_;refine qC (.int .i64 (K:Int)) y ?_;refine qS (.bool false) ?_;refine qS (.bool false) ?_;refine qS (.pointer (some (aD wr.heap.size 0))) ?_;refine qC (.int .i64 (K:Int)) y ?_;refine qS (.bool false) ?_;refine qS (.bool false) ?_;refine qS (.bool false) ?_;go_big_quiet_want;refine⟨.agg #[.int .i64 (K:Int),.int .i64 nl,.int .i64 nr,.int .i64 ns,.slice na nx.length nc,.int .i64 ny,.slice oa ox.length oc],λx l=>?_,?_⟩
    ·have e0:=LA l y m1 m2 m3 m4 m5 m6;go_simp
    simp only[pU];go_big_quiet_on;refine qS (.pointer (some (aD wr.heap.size 0))) ?_;refine qC (.int .i64 (K:Int)) y ?_;refine qS (.pointer (some (aD 0 (K*5)))) ?_;go_big_quiet_want;refine⟨.agg #[s0,s1,s2,s3,s4],λx l=>?_,?_⟩
    ·have e0:=cR5 l t0 t1 t2 t3 t4;go_simp
    simp only[pU];go_big_quiet_on;go_big_quiet_want;refine⟨.bool false,λx l=>?_,?_⟩
    ·have hC:=Qr l (H x);go_simp
    simp only[pU];go_big_quiet_on;refine qS (.bool true) ?_;refine qS (.bool true) ?_;refine Z8 ?_;intro w2 a;have D:=Zh (aF jo.o a);clear a;go_wp2;go_ret;exact⟨Qd d.o.symm,D.o⟩
   | true =>
    have aK:Hid (SB=AB):=by show _=_; rw[f.o]; rfl
    clear f;have f:=Zh aK.o;clear aK;go_wp2;refine Qq (by kernel_rfl) (by kernel_rfl) ?_;refine qS (.pointer (some (aD wr.heap.size 0))) ?_;refine qC (.int .i64 (K:Int)) y ?_;refine qS (.bool false) ?_;refine qS (.bool false) ?_;refine qS (.pointer (some (aD wr.heap.size 0))) ?_;refine qC (.int .i64 (K:Int)) y ?_;refine qS (.bool false) ?_;refine qS (.bool false) ?_;refine qS (.bool false) ?_;go_big_quiet_want;refine⟨.agg #[.int .i64 (K:Int),.int .i64 nl,.int .i64 nr,.int .i64 ns,.slice na nx.length nc,.int .i64 ny,.slice oa ox.length oc],λx l=>?_,?_⟩
    ·have e0:=LA l y m1 m2 m3 m4 m5 m6;go_simp
    simp only[pU];go_big_quiet_on;refine qS (.pointer (some (aD wr.heap.size 0))) ?_;refine qC (.int .i64 (K:Int)) y ?_;refine qS (.pointer (some (aD 0 (K*5)))) ?_;go_big_quiet_want;refine⟨.agg #[s0,s1,s2,s3,s4],λx l=>?_,?_⟩
    ·have e0:=cR5 l t0 t1 t2 t3 t4;go_simp
    simp only[pU];go_big_quiet_on;go_big_quiet_want;refine⟨.bool true,λx l=>?_,?_⟩
    ·have hC:=Qr l (H x);go_simp
    simp only[pU];go_big_quiet_on;refine qS (.bool false) ?_;refine qS (.bool false) ?_;refine Z8 ?_;intro w2 a;have q0:=cB a y;have q1:=cB a m1;have q2:=cB a m2;have q3:=cB a m3;have q4:=cB a m4;have q5:=cB a m5;have q6:=cB a m6;have aL:=af w2 (Xm a ae.o);have xg:=Zh (uR.o.trans (Q7 (aF aa.o a) (λb F _=>F)));have I:=Zh (Z.o.of_block ((aF aa.o a).block _ Z.o.lt));clear a H af y m1 m2 m3 m4 m5 m6 t0 t1 t2 t3 t4 Z ae aa bH c0 c1 c2 c3 c4 c5 c6;go_wp2_with fail;refine Z5 aL ?_;clear aL q0 q1 q2 q3 q4 q5 q6;rintro e w3 ⟨ib,rfl,aU,bI,av⟩;have xE:=Zh (xg.o.trans (Q7 av (λb F _=>F)));have bu:=Zh (I.o.of_block (av.block _ I.o.lt));have bz:ib≠w.heap.size:=by have:=I.o.lt; omega
    have bA:Hid _:=aU;have bN:=bg.o;clear aU bI av xg I;go_wp2;go_loopw [48] (λiv wx=>∃ m:Nat,m<=L.length/\iv=.int .i64 m/\Hid (∀ j,j<m->0<=L.getD j 0/\L.getD j 0<(k:Int))/\Hid (wx.rowIs w.heap.size 3 pl.length (λj=>.int .i64 ((CI m j:Nat):Int)))/\Hid (Kept (λb=>b≠w.heap.size) w3 wx)) (λiv _=>L.length-(intOf iv).toNat)
    case atStart=>exact⟨0,QK _,rfl,λj g=>absurd g (by omega),bu.o,Q5 _ _⟩
    case round=>
     obtain⟨m,hm,rfl,q,z,Nt⟩:=hrel;by_cases A:m<L.length
     ·obtain⟨bS,io,ei,aW⟩:=Qg bA.o A
      cases ei;have aM:=Ze (aW m A) Nt.o bz;rw[QL]at aM;have s:=Zh (r.o m A);have t:=Zh (Rw.o m A);have J:Hid _:=λj=>uH.o m j;have DU:Hid (∀ x,x=L.getD m 0->0<=x->x<(k:Int)->∀ j,j<m+1->0<=L.getD j 0/\L.getD j 0<(k:Int)):=λx l h0 h1 j g=>by
       rcases Z0 j m with U | U
       ·exact q.o j U
       ·obtain rfl:j=m:=by omega
        rw[<- l]; exact⟨h0,h1⟩
      have rH:=Zh ((V.o wr (xE.o.trans Nt.o)).1);clear aW q r Rw uH;obtain⟨x,ax⟩:=eY (L.getD m 0);rw[<- ax]at aM s t;have M:=Zh (DU.o x ax);clear ax DU;by_cases x0:x<0
      ·have d:=Zh (C.o (by rw[f.o,s.o (.inl x0)]));clear f C W p Y s t J M;go_wp2;go_ret;exact⟨Qd d.o.symm,rH.o⟩
      by_cases x1:(k:Int)<=x
      ·have d:=Zh (C.o (by rw[f.o,s.o (.inr x1)]));clear f C W p Y s t J M;go_wp2;go_ret;exact⟨Qd d.o.symm,rH.o⟩
      obtain⟨X,rfl⟩:=ZV (show 0<=x by omega);have hX:X<pl.length:=by omega
      have aN:=z.o.cell hX;have bO:=z.o.frozen X;have aO:=J.o X;rw[ZY]at t;have pQ:Hid (∀ v:Nat,v=CI m X+1->(wr.setCell (aD w.heap.size X) (.int .i64 (v:Int))).rowIs w.heap.size 3 pl.length (λj=>.int .i64 ((CI (m+1) j:Nat):Int))):=λv hv=>
       (z.o.set X (.int .i64 (v:Int))).congr (λj _=>by
        show (if j=X then _ else _)=_;rw[t.o j];by_cases g:j=X
        ·rw[Qo g,Qo g,g,hv]
        ·rw[Qu g,Qu g,ZG])
      have bB:=Zh (M.o (by omega) (by omega));obtain⟨u,hu⟩:=eY (CI m X);rw[<- hu]at aN aO pQ;have bP:u<=200:=by omega
      have aP:Hid (Kept (λb=>b≠w.heap.size) w3 (wr.setCell (aD w.heap.size X) (.int .i64 ((u+1:Nat):Int)))):=Nt.o.trans (Zf _ _ _ (λh=>h rfl));have aQ:Hid _:=pQ.o (u+1) rfl;clear hu z t J pQ s M aO;have E:((u+1:Nat):Int)=(u:Int)+1:=by omega
      rw[E]at aP aQ;clear E;go_wp2;go_roundw
      case rel=>exact⟨m+1,by omega,by go_num,bB.o,aQ.o,aP.o⟩
      case measure=>simp[intOf]; omega
     ·obtain rfl:m=L.length:=by omega
      have ag:=p.o q.o;have bC:=Zh (W.o (by rw[f.o,ag]));have bD:=Zh (z.o.congr (λj _=>by rw[Y.o ag j]));have bE:=Zh (xE.o.trans Nt.o);clear ag p W f Y z Nt q C r Rw uH;go_wp2;go_roundw
      case rel=>exact⟨k+1,by omega,by go_num,bC.o,bD.o,bE.o⟩
      case measure=>simp[intOf]; omega
  ·obtain rfl:k=pl.length:=by omega
   have d:=Zh (aB.o HJ.o);have aR:=Zh S;have bF:Hid (∀ j,j<pl.length->wr.cell? (aD w.heap.size j)=some (.int .i64 ((yQ pl pl.length j:Nat):Int))):=λj g=>Q.o.cell g;clear B aB HJ Q uR S ak au V aH;generalize yQ pl pl.length=CN at *;obtain⟨N,hN⟩:=eX (pl.length-1);have bK:(pl.length:Int)-1=(N:Int):=by omega
   have bQ:N<=pl.length:=by omega
   rw[hN]at aC aG;have C9:=Zh hN;clear hN;go_wp2;go_loop [73] (λiv=>∃ m:Nat,m<=N/\iv=.int .i64 m/\Hid (∀ j,j<m->CN j=1)) (λiv=>N-(intOf iv).toNat)
   case atStart=>exact⟨0,QK _,rfl,λj g=>absurd g (by omega)⟩
   case round=>
    obtain⟨m,hm,rfl,q⟩:=hrel;by_cases A:m<N
    ·have aN:=bF.o m (by have:=C9.o; omega);have aj:=Zh (aC.o A);have DU:Hid (CN m=1->∀ j,j<m+1->CN j=1):=λh j g=>by
      rcases Z0 j m with U | U
      ·exact q.o j U
      ·obtain rfl:j=m:=by omega
       exact h
     generalize CN m=c at *;by_cases hc:c=1
     ·have HT:=Zh (DU.o hc);have bG:((c:Int) != 1)=false:=by rw[hc]; rfl
      clear DU hc aj;go_wp2;go_round
      case rel=>exact⟨m+1,by omega,by go_num,HT.o⟩
      case measure=>simp[intOf]; omega
     ·have Wj:Hid (R=false):=by show _=_; rw[d.o]; exact aj.o hc
      have bG:((c:Int) != 1)=true:=by rw[bne_iff_ne]; omega
      clear DU hc aj;go_wp2;go_ret;exact⟨Qd Wj.o.symm,aR.o⟩
    ·have Wj:Hid (R=true):=by show _=_; rw[d.o]; exact aG.o (λj g=>q.o j (by omega))
     go_wp2;go_ret;exact⟨Qd Wj.o.symm,aR.o⟩
theorem FM{ts:List af}{q:ae}{pl:List ah}{k:Nat}(h:je ts q pl k=none):∀ m,k<=m->je ts q pl m=none
 | 0,hm => by simp_all
 | m+1,hm => by
  by_cases e:k=m+1
  ·simp_all
  ·show (je ts q pl m).bind _=none
   rw[FM h m (by omega)];rfl
def fE(n:ah)(ps:List aH):List aH:=(aV n).map λx=>ps.getD x.toNat bE
theorem vK(n:ah)(ps:List aH):(fE n ps).length=(aV n).length:=by grind [fE]
theorem nL(n:ah):(aV n).length=arity n.kind:=by unfold aV;rw[ZZ];have:=qw n.kind;simp;omega
theorem vL{α β:Type}(f:α->β)(l:List α)(i:Nat)(z:α):(l.map f).getD i (f z)=f (l.getD i z):=by simp_all
theorem aiS(n:ah)(ps:List aH):((fE n ps).getD 0 bE).d=dN n (ps.map aH.d):=by
 unfold fE aV dN;have a:=qw n.kind;rcases (by omega:arity n.kind=0∨arity n.kind=1∨arity n.kind=2) with h | h | h <;> rw[h]
 ·rfl
 ·show (ps.getD n.l.toNat bE).d=_
  rw[Qo (by omega)];exact(vL aH.d ps n.l.toNat bE).symm
 ·show (ps.getD n.l.toNat bE).d=_
  rw[Qo (by omega)];exact(vL aH.d ps n.l.toNat bE).symm
theorem aiT(n:ah)(ps:List aH):((fE n ps).getD 1 bE).d=dO n (ps.map aH.d):=by
 unfold fE aV dO;have a:=qw n.kind;rcases (by omega:arity n.kind=0∨arity n.kind=1∨arity n.kind=2) with h | h | h <;> rw[h]
 ·rfl
 ·rfl
 ·show (ps.getD n.r.toNat bE).d=_
  rw[Qo rfl];exact(vL aH.d ps n.r.toNat bE).symm
theorem TN(n:ah)(ps:List aH):lL n.kind (fE n ps)=lF n.kind (dN n (ps.map aH.d)) (dO n (ps.map aH.d)):=by
 rw[<- aiS,<- aiT];have b:=qw n.kind;have hz:∀ {k:Int},arity k=2->decide (k=10)=false:=λ{k} h=>by unfold arity at h;grind
 have a:∀ {k:Int},arity k=0->decide (k=10)=false:=λ{k} h=>by unfold arity at h;grind
 unfold fE aV lF lL;rcases (by omega:arity n.kind=0∨arity n.kind=1∨arity n.kind=2) with h | h | h
 ·rw[h,a h]; rfl
 ·rw[h];rfl
 ·rw[h]
  show (([ps.getD n.l.toNat bE,ps.getD n.r.toNat bE]:List aH).all _)=_;simp only[List.all_cons,List.all_nil,Bool.and_true];show _=((dW (ps.getD n.l.toNat bE).kind==decide (n.kind=10)) && !dW (ps.getD n.r.toNat bE).kind);simp_all
theorem step_eq(ts:List af)(q:ae)(n:ah)(ps:List aH):oI ts q n (ps.map aH.d)=if (lL n.kind (fE n ps)&&dh ts q n ((fE n ps).getD 0 bE).d ((fE n ps).getD 1 bE).d)=true then some (ps.map aH.d++[bV ts q n ((fE n ps).getD 0 bE).d ((fE n ps).getD 1 bE).d]) else none:=by unfold oI;rw[TN,aiS,aiT]
theorem ad4(h:eG pl=true):1<=pl.length/\pl.length<=64/\∀ i,i<pl.length->gK (pl.getD i nz) i=true:=by unfold eG at h;simp_all
theorem FO(h:gK n i=true):1<=n.kind/\n.kind<=10/\∀ m,m<(aV n).length->0<=(aV n).getD m 0/\(aV n).getD m 0<(i:Int):=by
 unfold gK at h;simp only[Qj,Bool.or_eq_true,Qs]at h;obtain⟨⟨⟨⟨b,a⟩,_⟩,j⟩,k⟩:=h;refine⟨b,a,λm d=>?_⟩;rw[nL]at d;have e:=qw n.kind;have f:0<arity n.kind->(aV n).getD 0 0=n.l:=λh=>by unfold aV;simp_all
 have g:1<arity n.kind->(aV n).getD 1 0=n.r:=λh=>by unfold aV;simp_all
 grind
theorem TP{n:ah}{i:Nat}(h:gK n i=true)(ho:dW n.kind=true):0<=n.l/\n.l<(i:Int):=by
 obtain⟨g,b,d⟩:=FO h;have e:7<=n.kind:=by unfold dW at ho; simp_all
 have a:arity n.kind=1:=by unfold arity; grind
 have:=d 0 (by rw[nL,a]; omega);have f:(aV n).getD 0 0=n.l:=by unfold aV; rw[a]; rfl
 omega
theorem ad5{ps:List aH}(hm:m<(aV n).length):(fE n ps).take (m+1)=(fE n ps).take m++[ps.getD ((aV n).getD m 0).toNat bE]:=by grind [fE,List.take_succ_eq_append_getElem]
theorem ag7(f:aC)(ts:List af)(q:ae)(n:ah)(ao:Option Addr)(cap:Nat)(ps:List aH)(w:World)(ok:Ok ts q)(hf:f.At ts q w)(hcl:n.cl.At w)(hco:n.co.At w)(hcap:n.co.xs.length<=n.co.cap)(hp:PartsAt w ao ps)(hk:n.kind=1)(hl:ps.length=arity n.kind) :
  Cb 65 #[.agg (f.cells ts q),.agg n.cells,.slice ao ps.length cap] w (.bool (dh ts q n (ps.getD 0 bE).d (ps.getD 1 bE).d)):=by
 obtain⟨v0,T,U,v3,v4,v5,V,W,X,v9,M,O,P,t,j,A,B,C,D,E,F,-⟩:=Z6 f ts q;have u:n.cells=#[.int .i64 n.kind,.int .i64 n.l,.int .i64 n.r,.int .i64 n.source,n.cl.val,.int .i64 n.key,n.co.val]:=rfl;obtain⟨Q,G,k,b⟩:=bn w ((f.cells ts q)) 68;obtain⟨Y,H,m,p⟩:=bn Q n.cells 75;have a:=m;have g:=aF k a;have I:=b.of (a.block _ b.lt);have J:=p;obtain⟨Z,mG,mH,oN,lI,oO,oP⟩:=J.k7;obtain⟨S,fI,eQ,fD,fJ,fQ,fM,iK,iI,iJ,dR,eH,dS⟩:=I.k13 (by rw[t]; rfl);have K:=hp.1;have v:ps.length=0:=by rw[hl,hk]; rfl
 have y:=Zh g;obtain⟨e,s⟩:∃ R,R=dh ts q n (ps.getD 0 bE).d (ps.getD 1 bE).d:=⟨_,rfl⟩;rw[<- s];unfold dh at s;rw[Qo hk]at s;generalize ps.getD 0 bE=L at *;generalize ps.getD 1 bE=R at *;rw[j]at S;have z:=Zh s;rw[t,u];rw[t]at G;rw[u]at H;clear s b p I J k m g a v hl;clear hf hcl hco hcap hp ok t u j A B C D E F;obtain⟨nk,nl,nr,ns,⟨ca,cc,cl⟩,key,⟨da,dc,co⟩⟩:=n;simp only at hk;subst hk;simp only[aH.cells,ah.cells,ai.val]at *;generalize q.src.xs.length=N at *;by_cases s0:0<=ns
 ·by_cases s1:ns<(N:Int)
  ·have i:Hid (e=true):=by grind
   clear z;go_enter Tryz.func65,Tryz.ntmps65;go_wp2;go_ret;exact⟨Qd i.o.symm,y.o⟩
  ·have i:Hid (e=false):=by grind
   clear z;go_enter Tryz.func65,Tryz.ntmps65;go_wp2;go_ret;exact⟨Qd i.o.symm,y.o⟩
 ·have i:Hid (e=false):=by grind
  clear z;go_enter Tryz.func65,Tryz.ntmps65;go_wp2;go_ret;exact⟨Qd i.o.symm,y.o⟩
theorem ag8(f:aC)(ts:List af)(q:ae)(n:ah)(ao:Option Addr)(cap:Nat)(ps:List aH)(w:World)(ok:Ok ts q)(hf:f.At ts q w)(hcl:n.cl.At w)(hco:n.co.At w)(hcap:n.co.xs.length<=n.co.cap)(hp:PartsAt w ao ps)(hk:n.kind=2)(hl:ps.length=arity n.kind) :
  Cb 65 #[.agg (f.cells ts q),.agg n.cells,.slice ao ps.length cap] w (.bool (dh ts q n (ps.getD 0 bE).d (ps.getD 1 bE).d)):=by
 obtain⟨v0,v1,v2,v3,v4,v5,v6,v7,v8,v9,H,I,J,s,K,M,N,O,P,Q,S,-⟩:=Z6 f ts q;have B:n.cells=#[.int .i64 n.kind,.int .i64 n.l,.int .i64 n.r,.int .i64 n.source,n.cl.val,.int .i64 n.key,n.co.val]:=rfl;obtain⟨A,i,t,j⟩:=bn w ((f.cells ts q)) 68;obtain⟨w2,k,u,v⟩:=bn A n.cells 75;have e:=u;have a:=aF t e;have Z:=j.of (e.block _ j.lt);have lM:=v;obtain⟨kS,mG,mH,oN,T,oO,oP⟩:=lM.k7;obtain⟨eT,fI,eQ,fD,fJ,fQ,fM,iK,iI,iJ,dR,eH,dS⟩:=Z.k13 (by rw[s]; rfl);have aa:=hp.1;have C:ps.length=1:=by rw[hl,hk]; rfl
 have HC:=Zh a;obtain⟨m,g⟩:∃ R,R=dh ts q n (ps.getD 0 bE).d (ps.getD 1 bE).d:=⟨_,rfl⟩;rw[<- g];unfold dh at g;rw[Qu (by rw[hk]; decide),Qo hk]at g;have D:0<ps.length:=by omega
 obtain⟨⟨U,V,rfl,c0,c1,c2,c3,c4,c5⟩,W⟩:=(ZC a hp).2 0 D;rw[Z7,ZG]at c0 c1 c2 c3 c4 c5;generalize ps.getD 0 bE=L at *;generalize ps.getD 1 bE=R at *;have p:Hid (∀ x,Bw w2 x->Cb 101 #[.agg (f.cells ts q),n.cl.val,.int .u64 (L.sources:Int)] x (.bool (iP ts q n.cl.xs L.sources))):=λx b=>uM f ts q n.cl.ad n.cl.cap n.cl.xs L.sources x ok (hf.below (aF a b)) (Ql (aF a b) hcl) (by have:=W.sources; unfold dA at this; omega);have ag:=hcl.1;rw[s]at p;have g:m=(decide (0<n.cl.xs.length)&&iP ts q n.cl.xs L.sources):=g;generalize iP ts q n.cl.xs L.sources=RB at *;have E:=Zh g;rw[s,B];rw[s]at i;rw[B]at k;clear g j v Z lM t u a e C hl;clear hf hcl hco hcap hp ok s B K M N O P Q S;obtain⟨nk,nl,nr,ns,⟨X,Y,cl⟩,key,⟨da,dc,co⟩⟩:=n;simp only at hk;subst hk;obtain⟨lk,ls,J4,⟨la,IK,lx⟩,lz,Oq⟩:=L;simp only[aH.cells,ah.cells,ai.val]at *;by_cases z:0<cl.length
 ·have F:Hid (m=RB):=by grind
  clear E;go_enter Tryz.func65,Tryz.ntmps65;go_upto_region 5 with fail;clear i k;refine Qq (by kernel_rfl) (by kernel_rfl) ?_;refine qS (.pointer (some (aD A.heap.size 4))) ?_;refine qC (.slice X cl.length Y) T ?_;refine qS (.int .i64 (cl.length:Int)) ?_;refine qS (.bool true) ?_;refine qS (.bool true) ?_;go_big_quiet_want;refine⟨.agg #[v0,v1,v2,v3,v4,v5,v6,v7,v8,v9,H,I,J],λx b=>?_,?_⟩
  ·have e0:=l7 b eT fI eQ fD fJ fQ fM iK iI iJ dR eH dS;go_simp
  simp only[pU];go_big_quiet_on;refine qS (.pointer (some (aD A.heap.size 4))) ?_;refine qC (.slice X cl.length Y) T ?_;refine qS (.slice (some (aD U V)) ps.length cap) ?_;refine qS (.pointer (some (aD U V))) ?_;refine qS (.pointer (some (aD U (V+1)))) ?_;refine qC (.int .u64 (ls:Int)) c1 ?_;go_big_quiet_want;refine⟨.bool RB,λx b=>?_,?_⟩
  ·have hC:=Qr b (p.o x b);go_simp
  simp only[pU];go_big_quiet_on;refine qS (.bool RB) ?_;refine qS (.bool RB) ?_;refine Z8 ?_;intro wE y;have G:=Zh (aF HC.o y);clear y;go_wp2;go_ret;exact⟨Qd F.o.symm,G.o⟩
 ·have F:Hid (m=false):=by show _=_; rw[E.o,ZW z]; rfl
  obtain rfl:cl=[]:=Zl (by omega);simp only[Xa]at *;clear E;go_enter Tryz.func65,Tryz.ntmps65;go_upto_region 5 with fail;clear i k;refine Qq (by kernel_rfl) (by kernel_rfl) ?_;refine qS (.pointer (some (aD A.heap.size 4))) ?_;refine qC (.slice X 0 Y) T ?_;refine qS (.int .i64 0) ?_;refine qS (.bool false) ?_;go_big_quiet_want;refine⟨.bool false,λx b=>?_,?_⟩
  ·go_simp
  simp only[pU];go_big_quiet_on;go_big_quiet_skip;try simp only[pU]
  iterate 7 (go_big_quiet_skip; try simp only[pU])
  refine qS (.bool false) ?_;refine qS (.bool false) ?_;refine Z8 ?_;intro wE y;have G:=Zh (aF HC.o y);clear y;go_wp2;go_ret;exact⟨Qd F.o.symm,G.o⟩
theorem ag9(f:aC)(ts:List af)(q:ae)(n:ah)(ao:Option Addr)(cap:Nat)(ps:List aH)(w:World)(ok:Ok ts q)(hf:f.At ts q w)(hcl:n.cl.At w)(hco:n.co.At w)(hcap:n.co.xs.length<=n.co.cap)(hp:PartsAt w ao ps)(hk:n.kind=3)(hl:ps.length=arity n.kind) :
  Cb 65 #[.agg (f.cells ts q),.agg n.cells,.slice ao ps.length cap] w (.bool (dh ts q n (ps.getD 0 bE).d (ps.getD 1 bE).d)):=by
 obtain⟨v0,v1,v2,v3,v4,v5,v6,v7,v8,v9,E,F,G,k,H,I,J,K,M,N,O,-⟩:=Z6 f ts q;have z:n.cells=#[.int .i64 n.kind,.int .i64 n.l,.int .i64 n.r,.int .i64 n.source,n.cl.val,.int .i64 n.key,n.co.val]:=rfl;obtain⟨w1,m,p,i⟩:=bn w ((f.cells ts q)) 68;obtain⟨w2,s,t,u⟩:=bn w1 n.cells 75;have e:=t;have a:=aF p e;have W:=i.of (e.block _ i.lt);have X:=u;obtain⟨kS,mG,mH,oN,lI,oO,oP⟩:=X.k7;obtain⟨eT,fI,eQ,fD,fJ,fQ,fM,iK,iI,iJ,dR,eH,dS⟩:=W.k13 (by rw[k]; rfl);have aa:=hp.1;have A:ps.length=2:=by rw[hl,hk]; rfl
 have HC:=Zh a;obtain⟨P,g⟩:∃ R,R=dh ts q n (ps.getD 0 bE).d (ps.getD 1 bE).d:=⟨_,rfl⟩;rw[<- g];unfold dh at g;rw[Qu (by rw[hk]; decide),Qu (by rw[hk]; decide),Qo hk]at g;have B:0<ps.length:=by omega
 obtain⟨⟨v,y,rfl,Z,c1,c2,c3,c4,c5⟩,Q⟩:=(ZC a hp).2 0 B;rw[Z7,ZG]at Z c1 c2 c3 c4 c5;have C:1<ps.length:=by omega
 have ag:(1:Int)<(ps.length:Int):=by omega
 obtain⟨⟨aj,ak,e',d0,d1,d2,d3,d4,d5⟩,S⟩:=(ZC a hp).2 1 C;cases e';rw[Nat.one_mul]at d0 d1 d2 d3 d4 d5;generalize ps.getD 0 bE=L at *;generalize ps.getD 1 bE=R at *;have j:Hid (∀ x,Bw w2 x->Cb 102 #[.agg (f.cells ts q),.agg n.cells,.agg L.cells,.agg R.cells] x (.bool (kP ts q n L.sources R.sources))):=λx b=>sN f ts q n L R x ok (hf.below (aF a b)) (Ql (aF a b) hcl) Q.sources S.sources;rw[k]at j;have g:P=kP ts q n L.sources R.sources:=g;generalize kP ts q n L.sources R.sources=RB at *;have Y:=Zh g;rw[k,z];rw[k]at m;rw[z]at s;clear g i u W X p t a e A hl;clear hf hcl hco hcap hp ok k z H I J K M N O;obtain⟨nk,nl,nr,ns,⟨ca,cc,cl⟩,key,⟨da,dc,co⟩⟩:=n;simp only at hk;subst hk;obtain⟨lk,ls,J4,⟨la,IK,lx⟩,lz,Oq⟩:=L;obtain⟨rk,rs,T,⟨ra,U,rx⟩,rz,V⟩:=R;simp only[aH.cells,ah.cells,ai.val]at *;have HV:=Zh Y.o;clear Y;go_enter Tryz.func65,Tryz.ntmps65;go_upto_region 7 with fail;clear m s;refine Qq (by kernel_rfl) (by kernel_rfl) ?_;go_big_quiet_want;refine⟨.agg #[v0,v1,v2,v3,v4,v5,v6,v7,v8,v9,E,F,G],λx b=>?_,?_⟩
 ·have D:=l7 b eT fI eQ fD fJ fQ fM iK iI iJ dR eH dS;go_simp
 simp only[pU];go_big_quiet_on;go_big_quiet_want;refine⟨.agg #[.int .i64 3,.int .i64 nl,.int .i64 nr,.int .i64 ns,.slice ca cl.length cc,.int .i64 key,.slice da co.length dc],λx b=>?_,?_⟩
 ·have D:=LA b kS mG mH oN lI oO oP;go_simp
 simp only[pU];go_big_quiet_on;refine qS (.slice (some (aD v y)) ps.length cap) ?_;refine qS (.pointer (some (aD v y))) ?_;go_big_quiet_want;refine⟨.agg #[.int .i64 lk,.int .u64 (ls:Int),.int .u64 (J4:Int),.slice la lx.length IK,.int .u64 (lz:Int),.int .u64 (Oq:Int)],λx b=>?_,?_⟩
 ·have D:=Pj b Z c1 c2 c3 c4 c5;go_simp
 simp only[pU];go_big_quiet_on;refine qS (.slice (some (aD v y)) ps.length cap) ?_;refine qS (.pointer (some (aD v (y+6)))) ?_;go_big_quiet_want;refine⟨.agg #[.int .i64 rk,.int .u64 (rs:Int),.int .u64 (T:Int),.slice ra rx.length U,.int .u64 (rz:Int),.int .u64 (V:Int)],λx b=>?_,?_⟩
 ·have D:=Pj b d0 d1 d2 d3 d4 d5;go_simp
 simp only[pU];go_big_quiet_on;go_big_quiet_want;refine⟨.bool RB,λx b=>?_,?_⟩
 ·have hC:=Qr b (j.o x b);go_simp
 simp only[pU];go_big_quiet_on;refine qS (.bool RB) ?_;refine Z8 ?_;intro wE oC;have jF:=Zh (aF HC.o oC);clear oC;go_wp2;go_ret;exact⟨Qd HV.o.symm,jF.o⟩
def Ch(ts:List af)(q:ae)(n:ah)(l r:bK):Bool:=
 (fP ts q n l.sources r.sources).2.2&&kP ts q n l.sources r.sources&&au l.order [(fP ts q n l.sources r.sources).1]&&au r.order [(fP ts q n l.sources r.sources).2.1]
theorem Ig(f:aC)(ts:List af)(q:ae)(n:ah)(l r:aH)(w:World)(ok:Ok ts q)(hf:f.At ts q w)(hn:n.cl.At w)(hl:l.Ok w)(hr:r.Ok w) :
  Cb 104 #[.agg (f.cells ts q),.agg n.cells,.agg l.cells,.agg r.cells] w (.bool (Ch ts q n l.d r.d)):=by
 obtain⟨v0,v1,v2,v3,v4,v5,v6,v7,v8,v9,bz,bA,bB,S,-⟩:=Z6 f ts q;have qD:n.cells=#[.int .i64 n.kind,.int .i64 n.l,.int .i64 n.r,.int .i64 n.source,n.cl.val,.int .i64 n.key,n.co.val]:=rfl;have t:l.cells=#[.int .i64 l.kind,.int .u64 (l.sources:Int),.int .u64 (l.clauses:Int),l.order.val,.int .u64 (l.size:Int),.int .u64 (l.cost:Int)]:=rfl;have u:r.cells=#[.int .i64 r.kind,.int .u64 (r.sources:Int),.int .u64 (r.clauses:Int),r.order.val,.int .u64 (r.size:Int),.int .u64 (r.cost:Int)]:=rfl;obtain⟨w1,T,U,G⟩:=bn w ((f.cells ts q)) 68;obtain⟨w2,V,W,H⟩:=bn w1 n.cells 75;obtain⟨w3,X,Y,I⟩:=bn w2 l.cells 73;obtain⟨w4,Z,aa,ag⟩:=bn w3 r.cells 73;have A:=aa;have B:=aF Y A;have C:=aF W B;have g:=aF U C;have fH:=G.of (C.block _ G.lt);have lM:=H.of (B.block _ H.lt);obtain⟨kS,mG,mH,oN,lI,oO,oP⟩:=lM.k7;have M:=I.of (A.block _ I.lt);obtain⟨aj,Re,ak,av,ax,ay⟩:=M.k6;have N:=ag;obtain⟨az,Rf,aA,aB,aG,aI⟩:=N.k6;obtain⟨eT,fI,eQ,fD,fJ,fQ,fM,iK,iI,iJ,dR,eH,dS⟩:=fH.k13 (by rw[S]; rfl);have m:=qg f ts q n l r w4 ok (hf.below g) (Ql g hn) hl.sources hr.sources;have p:Hid (∀ x,Bw w4 x->_):=λx L=>sN f ts q n l r x ok (hf.below (aF g L)) (Ql (aF g L) hn) hl.sources hr.sources;have R9:Hid (∀ x b c,Bw w4 x->x.cell? (aD b 0)=some (.int .i64 c)->Cb 107 #[.slice l.order.ad l.order.xs.length l.order.cap,.slice (some (aD b 0)) 1 1] x (.bool (au l.order.xs [c]))):=
  λx b c L h0=>kR l.order.ad (some (aD b 0)) l.order.cap 1 l.order.xs [c] x (Ql (aF g L) hl.order) ⟨by simp,λi hi=>⟨b,0,rfl,by
   grind⟩⟩ hl.cap
 have oU:Hid (∀ x b c,Bw w4 x->x.cell? (aD b 0)=some (.int .i64 c)->Cb 107 #[.slice r.order.ad r.order.xs.length r.order.cap,.slice (some (aD b 0)) 1 1] x (.bool (au r.order.xs [c]))):=
  λx b c L h0=>kR r.order.ad (some (aD b 0)) r.order.cap 1 r.order.xs [c] x (Ql (aF g L) hr.order) ⟨by simp,λi hi=>⟨b,0,rfl,by
   grind⟩⟩ hr.cap
 have k:Hid (Ch ts q n l.d r.d=((fP ts q n l.sources r.sources).2.2&&kP ts q n l.sources r.sources&&au l.order.xs [(fP ts q n l.sources r.sources).1]&&au r.order.xs [(fP ts q n l.sources r.sources).2.1])):=rfl;have HC:=Zh g;rw[S,qD,t,u]at m p;rw[S]at T;rw[qD]at V;rw[t]at X;rw[u]at Z;rw[S,qD,t,u];generalize Ch ts q n l.d r.d=MP at *;generalize kP ts q n l.sources r.sources=JP at *;generalize fP ts q n l.sources r.sources=KP at *;clear S qD t u G H I ag fH lM M N U W Y aa g C B A hf hn hl hr ok;obtain⟨ka,kb,bq⟩:=KP;obtain⟨nk,nl,nr,ns,⟨na,nc,nx⟩,ny,⟨oa,oc,ox⟩⟩:=n;obtain⟨lk,ls,J4,⟨la,IK,lx⟩,lz,Oq⟩:=l;obtain⟨rk,rs,bC,⟨ra,bD,rx⟩,rz,bE⟩:=r;unfold ai.val at *;simp only at *
 cases bq with
 | false =>
  have z:Hid (MP=false):=by show _=_; rw[k.o]; rfl
  clear k p R9 oU;go_enter Tryz.func104,Tryz.ntmps104;go_wp2_with fail;refine Z5 m ?_;clear m;rintro e w5 ⟨rfl,a⟩;have jl:=Zh (aF HC.o a);clear a;go_wp2;go_ret;exact⟨Qd z.o.symm,jl.o⟩
 | true =>
  go_enter Tryz.func104,Tryz.ntmps104;go_wp2_with fail;refine Z5 m ?_;clear m T V X Z;rintro e w5 ⟨rfl,a⟩;have GZ:=cB a eT;have G7:=cB a fI;have G9:=cB a eQ;have Ha:=cB a fD;have Hd:=cB a fJ;have He:=cB a fQ;have Hf:=cB a fM;have Hg:=cB a iK;have Hl:=cB a iI;have Hm:=cB a iJ;have xK:=cB a dR;have xL:=cB a eH;have xM:=cB a dS;have aJ:=cB a kS;have aK:=cB a mG;have aL:=cB a mH;have aM:=cB a oN;have aN:=cB a lI;have aO:=cB a oO;have aP:=cB a oP;have aQ:=cB a aj;have aR:=cB a az;have X8:=cB a Re;have aS:=cB a Rf;have aT:=cB a ak;have aU:=cB a aA;have O:=cB a av;have P:=cB a aB;have aV:=cB a ax;have aW:=cB a aG;have aX:=cB a ay;have aY:=cB a aI;have v:=p.o w5 a;have jl:=Zh a;have Q:=Zh (aF HC.o a);clear a eT fI eQ fD fJ fQ fM iK iI iJ dR eH dS kS mG mH oN lI oO oP aj Re ak av ax ay az Rf aA aB aG aI
  cases JP with
  | false =>
   have z:Hid (MP=false):=by show _=_; rw[k.o]; rfl
   clear k p R9 oU;go_wp2_with fail;refine Z5 v ?_;clear v;rintro e w6 ⟨rfl,j⟩;have vo:=Zh (aF Q.o j);clear j;go_wp2;go_ret;exact⟨Qd z.o.symm,vo.o⟩
  | true =>
   have UR:Hid (MP=(au lx [ka]&&au rx [kb])):=by show _=_; rw[k.o]; rfl
   clear k p;go_wp2_with fail;refine Z5 v ?_;clear v;rintro e w6 ⟨rfl,j⟩;have e3:=cB j O;have e4:=cB j P;have vo:=Zh (aF jl.o j);have aZ:=Zh (aF Q.o j);clear j GZ G7 G9 Ha Hd He Hf Hg Hl Hm xK xL xM aJ aK aL aM aN aO aP aQ X8 aT O aV aX aR aS aU P aW aY;obtain⟨wa,GD⟩:∃ x,w6.alloc (.cells #[.int .i64 ka] 3)=x:=⟨_,rfl⟩;have s:Bw w6 wa:=by rw[<- GD]; exact fq _ _
   have y:=R9.o wa w6.heap.size ka (aF vo.o s) (by rw[<- GD]; simp);have Ot:=Zh (aF vo.o s);have Ja:=Zh (aF aZ.o s);have R:=cB s e4;clear s;generalize au lx [ka]=S1 at *
   cases S1 with
   | false =>
    have z:Hid (MP=false):=by show _=_; rw[UR.o]; rfl
    clear UR;go_wp2_with fail;refine Z5 y ?_;clear y GD;rintro e w7 ⟨rfl,J⟩;have D:=Zh (aF Ja.o J);clear J;go_wp2;go_ret;exact⟨Qd z.o.symm,D.o⟩
   | true =>
    have z:Hid (MP=au rx [kb]):=by show _=_; rw[UR.o]; rfl
    clear UR;go_wp2_with fail;refine Z5 y ?_;clear y GD;rintro e w7 ⟨rfl,J⟩;have bu:=cB J R;have D:=Zh (aF Ot.o J);have bf:=Zh (aF Ja.o J);clear J e4 R e3;obtain⟨wb,K⟩:∃ x,w7.alloc (.cells #[.int .i64 kb] 3)=x:=⟨_,rfl⟩;have E:Bw w7 wb:=by rw[<- K]; exact fq _ _
    have F:=oU.o wb w7.heap.size kb (aF D.o E) (by rw[<- K]; simp);rw[<- z.o]at F;have uH:=Zh (aF bf.o E);clear E z;go_wp2_with fail;refine Z5 F ?_;clear F K;rintro e w8 ⟨rfl,Nf⟩;have bg:=Zh (aF uH.o Nf);clear Nf;go_wp2;go_ret;exact⟨rfl,bg.o⟩
theorem ahi(f:aC)(ts:List af)(q:ae)(n:ah)(ao:Option Addr)(cap:Nat)(ps:List aH)(w:World)(ok:Ok ts q)(hf:f.At ts q w)(hcl:n.cl.At w)(hco:n.co.At w)(hcap:n.co.xs.length<=n.co.cap)(hp:PartsAt w ao ps)(hk:n.kind=4)(hl:ps.length=arity n.kind) :
  Cb 65 #[.agg (f.cells ts q),.agg n.cells,.slice ao ps.length cap] w (.bool (dh ts q n (ps.getD 0 bE).d (ps.getD 1 bE).d)):=by
 obtain⟨v0,v1,v2,v3,v4,v5,v6,v7,v8,v9,y,z,A,W,aX,aY,aZ,bf,bg,bq,bu,-⟩:=Z6 f ts q;have qD:n.cells=#[.int .i64 n.kind,.int .i64 n.l,.int .i64 n.r,.int .i64 n.source,n.cl.val,.int .i64 n.key,n.co.val]:=rfl;obtain⟨w1,B,aP,C⟩:=bn w ((f.cells ts q)) 68;obtain⟨w2,D,aQ,aR⟩:=bn w1 n.cells 75;have t:=aQ;have e:=aF aP t;have fH:=C.of (t.block _ C.lt);have lM:=aR;obtain⟨X,Y,Z,oN,lI,oO,oP⟩:=lM.k7;obtain⟨eT,fI,eQ,fD,fJ,fQ,fM,iK,iI,iJ,dR,eH,dS⟩:=fH.k13 (by rw[W]; rfl);have bA:=hp.1;have aU:ps.length=2:=by rw[hl,hk]; rfl
 have HC:=Zh e;obtain⟨E,m⟩:∃ R,R=dh ts q n (ps.getD 0 bE).d (ps.getD 1 bE).d:=⟨_,rfl⟩;rw[<- m];unfold dh at m;rw[Qu (by rw[hk]; decide),Qu (by rw[hk]; decide),Qu (by rw[hk]; decide),Qo hk]at m;have aV:0<ps.length:=by omega
 obtain⟨⟨g,i,rfl,F,G,H,I,J,K⟩,aS⟩:=(ZC e hp).2 0 aV;rw[Z7,ZG]at F G H I J K;have aW:1<ps.length:=by omega
 have bB:(1:Int)<(ps.length:Int):=by omega
 obtain⟨⟨bC,bD,e',M,N,O,P,Q,S⟩,aT⟩:=(ZC e hp).2 1 aW;cases e';rw[Nat.one_mul]at M N O P Q S;generalize ps.getD 0 bE=L at *;generalize ps.getD 1 bE=R at *;have u:Hid (∀ x,Bw w2 x->Cb 102 #[.agg (f.cells ts q),.agg n.cells,.agg L.cells,.agg R.cells] x (.bool (kP ts q n L.sources R.sources))):=λx b=>sN f ts q n L R x ok (hf.below (aF e b)) (Ql (aF e b) hcl) aS.sources aT.sources;rw[W]at u;have k:Hid (∀ x,Bw w2 x->Cb 103 #[.agg (f.cells ts q),.agg n.cells,.agg L.cells,.agg R.cells] x (.tuple #[.int .i64 (fP ts q n L.sources R.sources).1,.int .i64 (fP ts q n L.sources R.sources).2.1,.bool (fP ts q n L.sources R.sources).2.2])):=λx b=>qg f ts q n L R x ok (hf.below (aF e b)) (Ql (aF e b) hcl) aS.sources aT.sources;rw[W]at k;have m:E=((fP ts q n L.sources R.sources).2.2&&kP ts q n L.sources R.sources):=m;generalize kP ts q n L.sources R.sources=RB at *;generalize fP ts q n L.sources R.sources=KP at *;obtain⟨p,s,bz⟩:=KP;simp only at k m;have lY:=Zh m;rw[W,qD];rw[W]at B;rw[qD]at D;clear m C aR fH lM aP aQ e t aU hl;clear hf hcl hco hcap hp ok W qD aX aY aZ bf bg bq bu;obtain⟨nk,nl,nr,ns,⟨ca,cc,cl⟩,key,⟨da,dc,co⟩⟩:=n;simp only at hk;subst hk;obtain⟨lk,ls,J4,⟨la,IK,lx⟩,lz,Oq⟩:=L;obtain⟨rk,rs,T,⟨ra,U,rx⟩,rz,V⟩:=R;simp only[aH.cells,ah.cells,ai.val]at *
 cases bz with
 | true =>
  have HV:Hid (E=RB):=by show _=_; rw[lY.o]; rfl
  clear lY;go_enter Tryz.func65,Tryz.ntmps65;go_upto_region 9 with fail;clear B D;refine Qq (by kernel_rfl) (by kernel_rfl) ?_;go_big_quiet_want;refine⟨.agg #[v0,v1,v2,v3,v4,v5,v6,v7,v8,v9,y,z,A],λx b=>?_,?_⟩
  ·have j:=l7 b eT fI eQ fD fJ fQ fM iK iI iJ dR eH dS;go_simp
  simp only[pU];go_big_quiet_on;go_big_quiet_want;refine⟨.agg #[.int .i64 4,.int .i64 nl,.int .i64 nr,.int .i64 ns,.slice ca cl.length cc,.int .i64 key,.slice da co.length dc],λx b=>?_,?_⟩
  ·have j:=LA b X Y Z oN lI oO oP;go_simp
  simp only[pU];go_big_quiet_on;refine qS (.slice (some (aD g i)) ps.length cap) ?_;refine qS (.pointer (some (aD g i))) ?_;go_big_quiet_want;refine⟨.agg #[.int .i64 lk,.int .u64 (ls:Int),.int .u64 (J4:Int),.slice la lx.length IK,.int .u64 (lz:Int),.int .u64 (Oq:Int)],λx b=>?_,?_⟩
  ·have j:=Pj b F G H I J K;go_simp
  simp only[pU];go_big_quiet_on;refine qS (.slice (some (aD g i)) ps.length cap) ?_;refine qS (.pointer (some (aD g (i+6)))) ?_;go_big_quiet_want;refine⟨.agg #[.int .i64 rk,.int .u64 (rs:Int),.int .u64 (T:Int),.slice ra rx.length U,.int .u64 (rz:Int),.int .u64 (V:Int)],λx b=>?_,?_⟩
  ·have j:=Pj b M N O P Q S;go_simp
  simp only[pU];go_big_quiet_on;go_big_quiet_want;refine⟨.tuple #[.int .i64 p,.int .i64 s,.bool true],λx b=>?_,?_⟩
  ·have hC:=Qr b (k.o x b);go_simp
  simp only[pU];go_big_quiet_on;refine qS (.tuple #[.int .i64 p,.int .i64 s,.bool true]) ?_;refine qS (.int .i64 p) ?_;refine qS (.int .i64 s) ?_;refine qS (.bool true) ?_;refine qS (.int .i64 p) ?_;refine qS (.int .i64 s) ?_;refine qS (.bool true) ?_;refine Z8 ?_;intro w5 a;have GZ:=cB a eT;have G7:=cB a fI;have G9:=cB a eQ;have Ha:=cB a fD;have Hd:=cB a fJ;have He:=cB a fQ;have Hf:=cB a fM;have Hg:=cB a iK;have Hl:=cB a iI;have Hm:=cB a iJ;have xK:=cB a dR;have xL:=cB a eH;have xM:=cB a dS;have aa:=cB a X;have ag:=cB a Y;have aj:=cB a Z;have ak:=cB a oN;have au:=cB a lI;have av:=cB a oO;have ax:=cB a oP;have ay:=cB a F;have az:=cB a M;have aA:=cB a G;have aB:=cB a N;have aG:=cB a H;have aI:=cB a O;have aJ:=cB a I;have aK:=cB a P;have aL:=cB a J;have aM:=cB a Q;have aN:=cB a K;have aO:=cB a S;have jl:=hd a;have v:=Zh (aF HC.o a);clear a eT fI eQ fD fJ fQ fM iK iI iJ dR eH dS X Y Z oN lI oO oP F G H I J K M N O P Q S;go_wp2_with fail;refine Qq (by kernel_rfl) (by kernel_rfl) ?_;refine qS (.bool true) ?_;refine qS (.bool true) ?_;go_big_quiet_want;refine⟨.agg #[v0,v1,v2,v3,v4,v5,v6,v7,v8,v9,y,z,A],λx b=>?_,?_⟩
  ·have j:=l7 b GZ G7 G9 Ha Hd He Hf Hg Hl Hm xK xL xM;go_simp
  simp only[pU];go_big_quiet_on;go_big_quiet_want;refine⟨.agg #[.int .i64 4,.int .i64 nl,.int .i64 nr,.int .i64 ns,.slice ca cl.length cc,.int .i64 key,.slice da co.length dc],λx b=>?_,?_⟩
  ·have j:=LA b aa ag aj ak au av ax;go_simp
  simp only[pU];go_big_quiet_on;refine qS (.slice (some (aD g i)) ps.length cap) ?_;refine qS (.pointer (some (aD g i))) ?_;go_big_quiet_want;refine⟨.agg #[.int .i64 lk,.int .u64 (ls:Int),.int .u64 (J4:Int),.slice la lx.length IK,.int .u64 (lz:Int),.int .u64 (Oq:Int)],λx b=>?_,?_⟩
  ·have j:=Pj b ay aA aG aJ aL aN;go_simp
  simp only[pU];go_big_quiet_on;refine qS (.slice (some (aD g i)) ps.length cap) ?_;refine qS (.pointer (some (aD g (i+6)))) ?_;go_big_quiet_want;refine⟨.agg #[.int .i64 rk,.int .u64 (rs:Int),.int .u64 (T:Int),.slice ra rx.length U,.int .u64 (rz:Int),.int .u64 (V:Int)],λx b=>?_,?_⟩
  ·have j:=Pj b az aB aI aK aM aO;go_simp
  simp only[pU];go_big_quiet_on;go_big_quiet_want;refine⟨.bool RB,λx b=>?_,?_⟩
  ·have hC:=Qr b (u.o x (aF jl.o b));go_simp
  simp only[pU];go_big_quiet_on;refine qS (.bool RB) ?_;refine qS (.bool RB) ?_;refine Z8 ?_;intro wE oC;have jF:=Zh (aF v.o oC);clear oC;go_wp2;go_ret;exact⟨Qd HV.o.symm,jF.o⟩
 | false =>
  have HV:Hid (E=false):=by show _=_; rw[lY.o]; rfl
  clear lY u;go_enter Tryz.func65,Tryz.ntmps65;go_upto_region 9 with fail;clear B D;refine Qq (by kernel_rfl) (by kernel_rfl) ?_;go_big_quiet_want;refine⟨.agg #[v0,v1,v2,v3,v4,v5,v6,v7,v8,v9,y,z,A],λx b=>?_,?_⟩
  ·have j:=l7 b eT fI eQ fD fJ fQ fM iK iI iJ dR eH dS;go_simp
  simp only[pU];go_big_quiet_on;go_big_quiet_want;refine⟨.agg #[.int .i64 4,.int .i64 nl,.int .i64 nr,.int .i64 ns,.slice ca cl.length cc,.int .i64 key,.slice da co.length dc],λx b=>?_,?_⟩
  ·have j:=LA b X Y Z oN lI oO oP;go_simp
  simp only[pU];go_big_quiet_on;refine qS (.slice (some (aD g i)) ps.length cap) ?_;refine qS (.pointer (some (aD g i))) ?_;go_big_quiet_want;refine⟨.agg #[.int .i64 lk,.int .u64 (ls:Int),.int .u64 (J4:Int),.slice la lx.length IK,.int .u64 (lz:Int),.int .u64 (Oq:Int)],λx b=>?_,?_⟩
  ·have j:=Pj b F G H I J K;go_simp
  simp only[pU];go_big_quiet_on;refine qS (.slice (some (aD g i)) ps.length cap) ?_;refine qS (.pointer (some (aD g (i+6)))) ?_;go_big_quiet_want;refine⟨.agg #[.int .i64 rk,.int .u64 (rs:Int),.int .u64 (T:Int),.slice ra rx.length U,.int .u64 (rz:Int),.int .u64 (V:Int)],λx b=>?_,?_⟩
  ·have j:=Pj b M N O P Q S;go_simp
  simp only[pU];go_big_quiet_on;go_big_quiet_want;refine⟨.tuple #[.int .i64 p,.int .i64 s,.bool false],λx b=>?_,?_⟩
  ·have hC:=Qr b (k.o x b);go_simp
  simp only[pU];go_big_quiet_on;refine qS (.tuple #[.int .i64 p,.int .i64 s,.bool false]) ?_;refine qS (.int .i64 p) ?_;refine qS (.int .i64 s) ?_;refine qS (.bool false) ?_;refine qS (.int .i64 p) ?_;refine qS (.int .i64 s) ?_;refine qS (.bool false) ?_;refine Z8 ?_;intro w5 a;have GZ:=cB a eT;have G7:=cB a fI;have G9:=cB a eQ;have Ha:=cB a fD;have Hd:=cB a fJ;have He:=cB a fQ;have Hf:=cB a fM;have Hg:=cB a iK;have Hl:=cB a iI;have Hm:=cB a iJ;have xK:=cB a dR;have xL:=cB a eH;have xM:=cB a dS;have aa:=cB a X;have ag:=cB a Y;have aj:=cB a Z;have ak:=cB a oN;have au:=cB a lI;have av:=cB a oO;have ax:=cB a oP;have ay:=cB a F;have az:=cB a M;have aA:=cB a G;have aB:=cB a N;have aG:=cB a H;have aI:=cB a O;have aJ:=cB a I;have aK:=cB a P;have aL:=cB a J;have aM:=cB a Q;have aN:=cB a K;have aO:=cB a S;have jl:=hd a;have v:=Zh (aF HC.o a);clear a eT fI eQ fD fJ fQ fM iK iI iJ dR eH dS X Y Z oN lI oO oP F G H I J K M N O P Q S;go_wp2_with fail;refine Qq (by kernel_rfl) (by kernel_rfl) ?_;refine qS (.bool false) ?_;go_big_quiet_want;refine⟨.bool false,λx b=>?_,?_⟩
  ·go_simp
  simp only[pU];go_big_quiet_on;go_big_quiet_skip;try simp only[pU]
  iterate 8 (go_big_quiet_skip; try simp only[pU])
  refine qS (.bool false) ?_;refine qS (.bool false) ?_;refine Z8 ?_;intro wE oC;have jF:=Zh (aF v.o oC);clear oC;go_wp2;go_ret;exact⟨Qd HV.o.symm,jF.o⟩
theorem ahj(f:aC)(ts:List af)(q:ae)(n:ah)(ao:Option Addr)(cap:Nat)(ps:List aH)(w:World)(ok:Ok ts q)(hf:f.At ts q w)(hcl:n.cl.At w)(hco:n.co.At w)(hcap:n.co.xs.length<=n.co.cap)(hp:PartsAt w ao ps)(hk:n.kind=5)(hl:ps.length=arity n.kind) :
  Cb 65 #[.agg (f.cells ts q),.agg n.cells,.slice ao ps.length cap] w (.bool (dh ts q n (ps.getD 0 bE).d (ps.getD 1 bE).d)):=by
 obtain⟨v0,v1,v2,v3,v4,v5,v6,v7,v8,v9,E,F,G,k,H,I,J,K,M,N,O,-⟩:=Z6 f ts q;have z:n.cells=#[.int .i64 n.kind,.int .i64 n.l,.int .i64 n.r,.int .i64 n.source,n.cl.val,.int .i64 n.key,n.co.val]:=rfl;obtain⟨w1,m,p,i⟩:=bn w ((f.cells ts q)) 68;obtain⟨w2,s,t,u⟩:=bn w1 n.cells 75;have e:=t;have b:=aF p e;have W:=i.of (e.block _ i.lt);have X:=u;obtain⟨kS,mG,mH,oN,lI,oO,oP⟩:=X.k7;obtain⟨eT,fI,eQ,fD,fJ,fQ,fM,iK,iI,iJ,dR,eH,dS⟩:=W.k13 (by rw[k]; rfl);have aa:=hp.1;have A:ps.length=2:=by rw[hl,hk]; rfl
 have HC:=Zh b;obtain⟨P,g⟩:∃ R,R=dh ts q n (ps.getD 0 bE).d (ps.getD 1 bE).d:=⟨_,rfl⟩;rw[<- g];unfold dh at g;rw[Qu (by rw[hk]; decide),Qu (by rw[hk]; decide),Qu (by rw[hk]; decide),Qu (by rw[hk]; decide),Qo hk]at g;have B:0<ps.length:=by omega
 obtain⟨⟨v,y,rfl,Z,c1,c2,c3,c4,c5⟩,Q⟩:=(ZC b hp).2 0 B;rw[Z7,ZG]at Z c1 c2 c3 c4 c5;have C:1<ps.length:=by omega
 have ag:(1:Int)<(ps.length:Int):=by omega
 obtain⟨⟨aj,ak,e',d0,d1,d2,d3,d4,d5⟩,S⟩:=(ZC b hp).2 1 C;cases e';rw[Nat.one_mul]at d0 d1 d2 d3 d4 d5;generalize ps.getD 0 bE=L at *;generalize ps.getD 1 bE=R at *;have j:Hid (∀ x,Bw w2 x->Cb 104 #[.agg (f.cells ts q),.agg n.cells,.agg L.cells,.agg R.cells] x (.bool (Ch ts q n L.d R.d))):=λx a=>Ig f ts q n L R x ok (hf.below (aF b a)) (Ql (aF b a) hcl) (Q.below a) (S.below a);rw[k]at j;have g:P=Ch ts q n L.d R.d:=g;generalize Ch ts q n L.d R.d=RB at *;have Y:=Zh g;rw[k,z];rw[k]at m;rw[z]at s;clear g i u W X p t b e A hl;clear hf hcl hco hcap hp ok k z H I J K M N O;obtain⟨nk,nl,nr,ns,⟨ca,cc,cl⟩,key,⟨da,dc,co⟩⟩:=n;simp only at hk;subst hk;obtain⟨lk,ls,J4,⟨la,IK,lx⟩,lz,Oq⟩:=L;obtain⟨rk,rs,T,⟨ra,U,rx⟩,rz,V⟩:=R;simp only[aH.cells,ah.cells,ai.val]at *;have HV:=Zh Y.o;clear Y;go_enter Tryz.func65,Tryz.ntmps65;go_upto_region 12 with fail;clear m s;refine Qq (by kernel_rfl) (by kernel_rfl) ?_;go_big_quiet_want;refine⟨.agg #[v0,v1,v2,v3,v4,v5,v6,v7,v8,v9,E,F,G],λx a=>?_,?_⟩
 ·have D:=l7 a eT fI eQ fD fJ fQ fM iK iI iJ dR eH dS;go_simp
 simp only[pU];go_big_quiet_on;go_big_quiet_want;refine⟨.agg #[.int .i64 5,.int .i64 nl,.int .i64 nr,.int .i64 ns,.slice ca cl.length cc,.int .i64 key,.slice da co.length dc],λx a=>?_,?_⟩
 ·have D:=LA a kS mG mH oN lI oO oP;go_simp
 simp only[pU];go_big_quiet_on;refine qS (.slice (some (aD v y)) ps.length cap) ?_;refine qS (.pointer (some (aD v y))) ?_;go_big_quiet_want;refine⟨.agg #[.int .i64 lk,.int .u64 (ls:Int),.int .u64 (J4:Int),.slice la lx.length IK,.int .u64 (lz:Int),.int .u64 (Oq:Int)],λx a=>?_,?_⟩
 ·have D:=Pj a Z c1 c2 c3 c4 c5;go_simp
 simp only[pU];go_big_quiet_on;refine qS (.slice (some (aD v y)) ps.length cap) ?_;refine qS (.pointer (some (aD v (y+6)))) ?_;go_big_quiet_want;refine⟨.agg #[.int .i64 rk,.int .u64 (rs:Int),.int .u64 (T:Int),.slice ra rx.length U,.int .u64 (rz:Int),.int .u64 (V:Int)],λx a=>?_,?_⟩
 ·have D:=Pj a d0 d1 d2 d3 d4 d5;go_simp
 simp only[pU];go_big_quiet_on;go_big_quiet_want;refine⟨.bool RB,λx a=>?_,?_⟩
 ·have hC:=Qr a (j.o x a);go_simp
 simp only[pU];go_big_quiet_on;refine qS (.bool RB) ?_;refine Z8 ?_;intro wE oC;have jF:=Zh (aF HC.o oC);clear oC;go_wp2;go_ret;exact⟨Qd HV.o.symm,jF.o⟩
