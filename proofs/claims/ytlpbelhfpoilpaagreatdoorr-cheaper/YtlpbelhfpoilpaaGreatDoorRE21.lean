import Derived.Test.YtlpbelhfpoilpaaGreatDoorRE17
set_option linter.all false
set_option maxRecDepth 100000
set_option maxHeartbeats 16000000
namespace Go.Proofs.Zz
open Go.RowKit Go.Shelf
variable {pl:List ai} {i m:Nat} {n:ai}
def hasB(ar:Nat)(sb cb kb ob:Bool)(n:ai):List Bool:=
 [decide ((ar:Int)<1)&&(n.l != 0),decide ((ar:Int)<2)&&(n.r != 0),!sb&&(n.source != 0),!kb&&(n.key != 0),!cb&&decide (0<n.cl.xs.length),!ob&&decide (0<n.co.xs.length)]
theorem Vw(n:ai):(!((hasB (arity n.kind) (decide (n.kind=1)) (decide (2<=n.kind/\n.kind<=5)) (decide (n.kind=4∨n.kind=5)) (decide (n.kind=6)) n).any id))=rW n:=by
 unfold hasB rW;rw[QI];simp only[List.any_cons,List.any_nil,id,Bool.not_eq_true',Bool.or_eq_false_iff,Bool.and_eq_false_iff,QJ,Qk,Bool.not_eq_false',bne_eq_false_iff_eq];constructor
 ·rintro⟨h1,h2,h3,h4,h5,h6,_⟩;refine⟨?_,?_,h3,?_,?_,?_⟩
  ·rcases h1 with h | h
   ·left; omega
   ·right; exact h
  ·rcases h2 with h | h
   ·left; omega
   ·right; exact h
  ·rcases h4 with (h | h) | h
   ·exact .inl h
   ·exact .inr (.inl h)
   ·exact .inr (.inr h)
  ·rcases h5 with h | h
   ·by_cases h':n.kind=2
    ·exact .inl h'
    ·exact .inr (.inl (by omega))
   ·exact .inr (.inr (by omega))
  ·rcases h6 with h | h
   ·exact .inl h
   ·exact .inr (by omega)
 ·rintro⟨h1,h2,h3,h4,h5,h6⟩;refine⟨?_,?_,h3,?_,?_,?_,trivial⟩
  ·rcases h1 with h | h
   ·left; omega
   ·right; exact h
  ·rcases h2 with h | h
   ·left; omega
   ·right; exact h
  ·rcases h4 with h | h | h
   ·exact .inl (.inl h)
   ·exact .inl (.inr h)
   ·exact .inr h
  ·rcases h5 with h | h | h
   ·exact .inl (by omega)
   ·exact .inl (by omega)
   ·exact .inr (by omega)
  ·rcases h6 with h | h
   ·exact .inl h
   ·exact .inr (by omega)
theorem EJ(n:ai)(ar:Nat)(sb cb kb ob:Bool)(w:World)(hcl:n.cl.xs.length<=1152921504606846976)(hco:n.co.xs.length<=1152921504606846976) :
  Cb 198 #[.agg n.cells,.agg #[.int .i64 (ar:Int),.bool sb,.bool cb,.bool kb,.bool ob]] w (.bool (!((hasB ar sb cb kb ob n).any id))):=by
 obtain⟨w1,hw1,hk1,hg1⟩:=aU w n.cells 58;obtain⟨w2,hw2,hk2,hg2⟩:=aU w1 #[.int .i64 (ar:Int),.bool sb,.bool cb,.bool kb,.bool ob] 271;have hc1:=hk2;have hc0:=aA hk1 hc1;have iq:=hg1.of (hc1.block _ hg1.lt);have dY:=iq.at 1;have dH:=iq.at 2;have dW:=iq.at 3;have dZ:=iq.at 4;have eU:=iq.at 5;have eH:=iq.at 6;have kI:=hg2;obtain⟨jJ,lJ,lK,mZ,kr⟩:=kI.k5;have HC:=Zh hc0;obtain⟨B1,e1⟩:∃ B,B=(decide ((ar:Int)<1)&&(n.l != 0)):=⟨_,rfl⟩
 obtain⟨B2,e2⟩:∃ B,B=(decide ((ar:Int)<2)&&(n.r != 0)):=⟨_,rfl⟩
 obtain⟨B3,e3⟩:∃ B,B=(!sb&&(n.source != 0)):=⟨_,rfl⟩
 obtain⟨B4,e4⟩:∃ B,B=(!kb&&(n.key != 0)):=⟨_,rfl⟩
 obtain⟨B5,e5⟩:∃ B,B=(!cb&&decide (0<n.cl.xs.length)):=⟨_,rfl⟩
 obtain⟨B6,e6⟩:∃ B,B=(!ob&&decide (0<n.co.xs.length)):=⟨_,rfl⟩
 have HV:Hid (hasB ar sb cb kb ob n=[B1,B2,B3,B4,B5,B6]):=by show _=_; unfold hasB; rw[e1,e2,e3,e4,e5,e6]
 have E1:=Zh e1;have E2:=Zh e2;have E3:=Zh e3;have E4:=Zh e4;have E5:=Zh e5;have E6:=Zh e6;generalize hasB ar sb cb kb ob n=L at *;generalize om:n.cells=NC at *;clear e1 e2 e3 e4 e5 e6 om hg1 hg2 iq kI hk1 hk2 hc0 hc1;obtain⟨nk,nl,nr,ns,⟨na,nc,nx⟩,ny,⟨oa,oc,ox⟩⟩:=n;unfold ah.val at *;simp only at *;go_enter Tryz.func198,Tryz.ntmps198;go_upto_region 1 with fail;go_cut [5] from 6 to 13 (fun c wx=>c=.bool B1/\wx=w2)
 case first=>
  by_cases hg:(ar:Int)<1
  ·have ht:B1=(nl != 0):=by rw[E1.o,QD hg,QE]
   go_wp2_with fail;go_meet;exact⟨by rw[ht],rfl⟩
  ·have ht:B1=false:=by rw[E1.o,Ql hg,Qm]
   go_wp2_with fail;go_meet;exact⟨by rw[ht],rfl⟩
 case rest=>
 obtain⟨rfl,rfl⟩:=hcut
 cases hB1:B1 with
 | true =>
  rw[hB1]at HV;have HF:Hid ((!L.any id)=false):=by show _=_; rw[HV.o]; simp
  clear HV;go_wp2;go_ret;exact⟨Qg HF.o.symm,HC.o⟩
 | false =>
 rw[hB1]at HV;clear hB1;go_upto_region 2 with fail;go_cut [5] from 14 to 21 (fun c wx=>c=.bool B2/\wx=wc)
 case first=>
  by_cases hg:(ar:Int)<2
  ·have ht:B2=(nr != 0):=by rw[E2.o,QD hg,QE]
   go_wp2_with fail;go_meet;exact⟨by rw[ht],rfl⟩
  ·have ht:B2=false:=by rw[E2.o,Ql hg,Qm]
   go_wp2_with fail;go_meet;exact⟨by rw[ht],rfl⟩
 case rest=>
 obtain⟨rfl,rfl⟩:=hcut
 cases hB2:B2 with
 | true =>
  rw[hB2]at HV;have HF:Hid ((!L.any id)=false):=by show _=_; rw[HV.o]; simp
  clear HV;go_wp2;go_ret;exact⟨Qg HF.o.symm,HC.o⟩
 | false =>
 rw[hB2]at HV;clear hB2;go_upto_region 4 with fail;go_cut [22] from 23 to 30 (fun c wx=>c=.bool B3/\wx=wc)
 case first=>
  cases hg:sb with
  | false =>
   subst hg;have ht:B3=(ns != 0):=by rw[E3.o]; rfl
   go_wp2_with fail;go_meet;exact⟨by rw[ht],rfl⟩
  | true =>
   subst hg;have ht:B3=false:=by rw[E3.o]; rfl
   go_wp2_with fail;go_meet;exact⟨by rw[ht],rfl⟩
 case rest=>
 obtain⟨rfl,rfl⟩:=hcut
 cases hB3:B3 with
 | true =>
  rw[hB3]at HV;have HF:Hid ((!L.any id)=false):=by show _=_; rw[HV.o]; simp
  clear HV;go_wp2;go_ret;exact⟨Qg HF.o.symm,HC.o⟩
 | false =>
 rw[hB3]at HV;clear hB3;go_upto_region 5 with fail;go_cut [22] from 31 to 38 (fun c wx=>c=.bool B4/\wx=wc)
 case first=>
  cases hg:kb with
  | false =>
   subst hg;have ht:B4=(ny != 0):=by rw[E4.o]; rfl
   go_wp2_with fail;go_meet;exact⟨by rw[ht],rfl⟩
  | true =>
   subst hg;have ht:B4=false:=by rw[E4.o]; rfl
   go_wp2_with fail;go_meet;exact⟨by rw[ht],rfl⟩
 case rest=>
 obtain⟨rfl,rfl⟩:=hcut
 cases hB4:B4 with
 | true =>
  rw[hB4]at HV;have HF:Hid ((!L.any id)=false):=by show _=_; rw[HV.o]; simp
  clear HV;go_wp2;go_ret;exact⟨Qg HF.o.symm,HC.o⟩
 | false =>
 rw[hB4]at HV;clear hB4;go_upto_region 7 with fail;go_cut [39] from 40 to 48 (fun c wx=>c=.bool B5/\wx=wc)
 case first=>
  cases hg:cb with
  | false =>
   subst hg;have ht:B5=(decide (0<nx.length)):=by rw[E5.o]; rfl
   go_wp2_with fail;go_meet;exact⟨by rw[ht],rfl⟩
  | true =>
   subst hg;have ht:B5=false:=by rw[E5.o]; rfl
   go_wp2_with fail;go_meet;exact⟨by rw[ht],rfl⟩
 case rest=>
 obtain⟨rfl,rfl⟩:=hcut
 cases hB5:B5 with
 | true =>
  rw[hB5]at HV;have HF:Hid ((!L.any id)=false):=by show _=_; rw[HV.o]; simp
  clear HV;go_wp2;go_ret;exact⟨Qg HF.o.symm,HC.o⟩
 | false =>
 rw[hB5]at HV;clear hB5;go_upto_region 8 with fail;go_cut [39] from 49 to 57 (fun c wx=>c=.bool B6/\wx=wc)
 case first=>
  cases hg:ob with
  | false =>
   subst hg;have ht:B6=(decide (0<ox.length)):=by rw[E6.o]; rfl
   go_wp2_with fail;go_meet;exact⟨by rw[ht],rfl⟩
  | true =>
   subst hg;have ht:B6=false:=by rw[E6.o]; rfl
   go_wp2_with fail;go_meet;exact⟨by rw[ht],rfl⟩
 case rest=>
 obtain⟨rfl,rfl⟩:=hcut
 cases hB6:B6 with
 | true =>
  rw[hB6]at HV;have HF:Hid ((!L.any id)=false):=by show _=_; rw[HV.o]; simp
  clear HV;go_wp2;go_ret;exact⟨Qg HF.o.symm,HC.o⟩
 | false =>
 rw[hB6]at HV;clear hB6;have HF:Hid ((!L.any id)=true):=by show _=_; rw[HV.o]; rfl
 clear HV;go_wp2;go_ret;exact⟨Qg HF.o.symm,HC.o⟩
def wO(pl:List ai)(i j:Nat):Nat:=gF i fun m=>(inpN pl m).count j
theorem F5(pl:List ai)(i j:Nat):wO pl (i+1) j=wO pl i j+(inpN pl i).count j:=gJ _ _
theorem aeh(pl:List ai)(i:Nat):(inpN pl i).length<=2:=by
 unfold inpN;simp only
 repeat' split
 all_goals simp
theorem Sq(pl:List ai)(j:Nat):∀ i,wO pl i j<=2*i
 | 0 => by simp[wO,gF]
 | i+1 => by
  rw[F5];have h1:=Sq pl j i;have h2:(inpN pl i).count j<=(inpN pl i).length:=List.count_le_length;have h3:=aeh pl i;omega
theorem og(k:Int):arity k<=2:=by unfold arity; split <;> (try split) <;> omega
def mK(n:ai)(i:Nat):Bool:=(aK n).all fun x=>decide (0<=x)&&decide (x<(i:Int))
theorem Vx(n:ai)(i:Nat):eP n i=(decide (1<=n.kind)&&decide (n.kind<=10)&&rW n&&mK n i):=by
 unfold eP mK aK;have ha:=og n.kind;generalize arity n.kind=a at *;rw[Bool.and_assoc];congr 1
 match a,ha with
 | 0,_ => simp
 | 1,_ => simp
 | 2,_ => simp
theorem ai0(h:mK (pl.getD i nz) i=true):inpN pl i=(aK (pl.getD i nz)).map Int.toNat:=by
 unfold mK aK at h;unfold inpN aK;simp only;have ha:=og (pl.getD i nz).kind;generalize arity (pl.getD i nz).kind=a at *
 match a,ha with
 | 0,_ => simp
 | 1,_ =>
  simp at h;simp[h]
 | 2,_ =>
  simp at h;simp[h]
def yH(pl:List ai)(i m j:Nat):Nat:=wO pl i j+(((aK (pl.getD i nz)).take m).map Int.toNat).count j
theorem Vy(pl:List ai)(i:Nat)(hm:m<(aK (pl.getD i nz)).length)(j:Nat):yH pl i (m+1) j=yH pl i m j+if j=((aK (pl.getD i nz)).getD m 0).toNat then 1 else 0:=by
 unfold yH;generalize aK (pl.getD i nz)=L at *;have e:L.getD m 0=L[m]:=by simp[List.getD,hm]
 rw[Qr hm,Qs,List.count_append,e];simp only[List.map_cons,List.map_nil,List.count_singleton];by_cases h:j=L[m].toNat
 ·rw[Qy h,h]; simp; omega
 ·rw[Qz h];have:(L[m].toNat==j)=false:=by rw[Xr]; exact fun e=>h e.symm
  rw[this]; simp
theorem Vz(pl:List ai)(i j:Nat):yH pl i 0 j=wO pl i j:=by unfold yH; simp
theorem aa3(h:mK (pl.getD i nz) i=true)(j:Nat):yH pl i (aK (pl.getD i nz)).length j=wO pl (i+1) j:=by
 unfold yH;rw[QA,F5,ai0 h]
theorem oO(n:ai):(aK n).length<=2:=by unfold aK; rw[Zm]; simp; omega
theorem VA(hm:m<(aK n).length)(h:(aK n).getD m 0<0∨(i:Int)<=(aK n).getD m 0):mK n i=false:=by
 unfold mK;rw[Qo];refine⟨_,Z7 hm (d:=0),?_⟩;generalize (aK n).getD m 0=x at *;rw[Qt,QJ,QJ];omega
theorem VB{n:ai}{i:Nat}(h:∀ m,m<(aK n).length->0<=(aK n).getD m 0/\(aK n).getD m 0<(i:Int)):mK n i=true:=by
 unfold mK;rw[Qu];intro x hx;obtain⟨m,hm,rfl⟩:=QC hx;have:=h m hm
 simpa [List.getD,hm] using this
theorem aa4{pl:List ai}{k:Nat}(hk:k<pl.length)(h:eP (pl.getD k nz) k=false):dK pl=false:=by
 unfold dK;have:((List.range pl.length).all fun i=>eP (pl.getD i nz) i)=false:=by
  rw[Qo];exact⟨k,Xq.2 hk,by rw[h]; simp⟩
 rw[this,Qn,Qm]
theorem VC(h1:1<=pl.length)(h64:pl.length<=64)(h:∀ i,i<pl.length->eP (pl.getD i nz) i=true):dK pl=xh pl:=by
 unfold dK;have:((List.range pl.length).all fun i=>eP (pl.getD i nz) i)=true:=by
  rw[Qu];exact fun i hi=>h i (Xq.1 hi)
 rw[this,QD h1,QD h64];rfl
theorem aa5{pl:List ai}{k:Nat}(hk:k<pl.length-1)(h:wO pl pl.length k≠1):xh pl=false:=by
 unfold xh;rw[Qo];exact⟨k,Xq.2 hk,by show ¬ decide (wO pl pl.length k=1)=true; rw[Ql h]; simp⟩
theorem VD{pl:List ai}(h:∀ k,k<pl.length-1->wO pl pl.length k=1):xh pl=true:=by
 unfold xh;rw[Qu];exact fun k hk=>QD (h k (Xq.1 hk))
theorem aa6(n:ai)(w:World)(h1:1<=n.kind)(hcl:n.cl.xs.length<=1152921504606846976)(hco:n.co.xs.length<=1152921504606846976) :
  Cb 198 #[.agg n.cells,.agg (gW n.kind)] w (.bool (rW n)):=by
 have h:=EJ n (arity n.kind) (decide (n.kind=1)) (decide (2<=n.kind/\n.kind<=5)) (decide (n.kind=4∨n.kind=5)) (decide (n.kind=6)) w hcl hco;rw[Vw]at h;unfold gW;rw[pG h1];exact h
theorem P6(po:Option Addr)(pc:Nat)(pl:List ai)(w:World)(hp:kE w po pl)(hs:bQ w 0) :
  Cb 127 #[.slice po pl.length pc] w (.bool (dK pl)):=by
 have hpl:=hp.1;by_cases z0:pl.length<1
 ·have HV:Hid (dK pl=false):=by show _=_; unfold dK; rw[Ql (by omega)]; rfl
  have z0':(pl.length:Int)<1:=by omega
  generalize dK pl=R at *;clear hp hs;go_enter Tryz.func127,Tryz.ntmps127;go_wp2;go_ret;exact⟨Qg HV.o.symm,Qw _ _⟩
 by_cases z1:64<pl.length
 ·have HV:Hid (dK pl=false):=by show _=_; unfold dK; rw[Ql (show ¬ pl.length<=64 by omega),Qn]; rfl
  have z1':(64:Int)<(pl.length:Int):=by omega
  have z0':¬ (pl.length:Int)<1:=by omega
  generalize dK pl=R at *;clear hp hs;go_enter Tryz.func127,Tryz.ntmps127;go_wp2;go_ret;exact⟨Qg HV.o.symm,Qw _ _⟩
 have hmk:=run_make_row' (P:=Tryz.prog) 23 3 (.int .i64 0) 8 Tryz.underlying23 Tryz.info3 rfl .i64 .i64 pl.length (by omega) (by omega);obtain⟨w1,hw1⟩:∃ x,w.alloc (.cells (madeCells #[.int .i64 0] pl.length) 3)=x:=⟨_,rfl⟩
 have hR1:w1.rowIs w.heap.size 3 pl.length (fun _=>.int .i64 0):=by rw[<- hw1]; exact World.rowIs_made _ _ _ _
 have hk1:Bw w w1:=by rw[<- hw1]; exact dn _ _
 have hs1:w.heap.size<w1.heap.size:=by rw[<- hw1]; simp
 have TR:Hid (∀ x,Kept (fun b=>b≠w.heap.size) w1 x->Bw w x/\kE x po pl/\bQ x 0):=fun x hk=>by
  have hb:=Below.trans hk1 (hk.below (Nat.le_of_lt hs1) (fun b hb=>Nat.ne_of_lt hb));exact⟨hb,hp.below hb,hs.below hb⟩
 have z0':¬ (pl.length:Int)<1:=by omega
 have z1':¬ (64:Int)<(pl.length:Int):=by omega
 have HBAD:Hid _:=@aa4 pl;have HON:=Zh (VC (pl:=pl) (by omega) (by omega));have HOB:Hid _:=@aa5 pl;have HOG:Hid _:=@VD pl;have JH:=hd hR1;have qI:Hid (∀ i j,wO pl i j<=2*i):=fun i j=>Sq pl j i
 generalize dK pl=R at *;generalize xh pl=OB at *;clear hp hs hR1 hk1 z0 z1;go_enter Tryz.func127,Tryz.ntmps127;go_wp2;clear hw1 hmk;go_loopw [23] (fun iv wr=>∃ k:Nat,k<=pl.length/\iv=.int .i64 k/\Hid (∀ i,i<k->eP (pl.getD i nz) i=true)/\Hid (wr.rowIs w.heap.size 3 pl.length (fun j=>.int .i64 ((wO pl k j:Nat):Int)))/\Hid (Kept (fun b=>b≠w.heap.size) w1 wr)) (fun iv _=>pl.length-(intOf iv).toNat)
 case atStart=>exact⟨0,Q8 _,rfl,fun j hj=>absurd hj (by omega),JH.o,Zn _ _⟩
 case round=>
  obtain⟨k,hk,rfl,HJ,HRW,qG⟩:=hrel;obtain⟨hbw,hpw,hsw⟩:=TR.o wr qG.o;by_cases hlt:k<pl.length
  ·obtain⟨pb,po',rfl,c0,c1,c2,c3,c4,c5,c6,i1,i2⟩:=hpw.2 k hlt;have yO:Hid (eP (pl.getD k nz) k=false->R=false):=fun e=>HBAD.o hlt e
   have Fs:Hid (eP (pl.getD k nz) k=true->∀ i,i<k+1->eP (pl.getD i nz) i=true):=fun h i hi=>by
    rcases Qq i k with h' | h'
    ·exact HJ.o i h'
    ·obtain rfl:i=k:=by omega
     exact h
   have xC:=Zh (Vx (pl.getD k nz) k);have HAB:Hid (∀ m,m<(aK (pl.getD k nz)).length->((aK (pl.getD k nz)).getD m 0<0∨(k:Int)<=(aK (pl.getD k nz)).getD m 0)->mK (pl.getD k nz) k=false):=fun m hm h=>VA hm h
   have HAA:Hid _:=@VB (pl.getD k nz) k;have Oc:Hid (∀ m,m<(aK (pl.getD k nz)).length->∀ j,yH pl k (m+1) j=yH pl k m j+if j=((aK (pl.getD k nz)).getD m 0).toNat then 1 else 0):=fun m hm j=>Vy pl k hm j
   have FP:Hid (mK (pl.getD k nz) k=true->∀ j,yH pl k (aK (pl.getD k nz)).length j=wO pl (k+1) j):=fun h j=>aa3 h j
   have qX:Hid (∀ m j,yH pl k m j<=2*k+2):=fun m j=>by
    unfold yH;have h1:=qI.o k j;have h2:(((aK (pl.getD k nz)).take m).map Int.toNat).count j<=(((aK (pl.getD k nz)).take m).map Int.toNat).length:=List.count_le_length;rw[Zc,Zm]at h2;have h3:=oO (pl.getD k nz);omega
   have HRI:Hid (wr.rowIs w.heap.size 3 pl.length (fun j=>.int .i64 ((yH pl k 0 j:Nat):Int))):=HRW.o.congr (fun j _=>by rw[Vz]);have HMO:Hid (∀ x,1<=(pl.getD k nz).kind->_):=fun x h1=>aa6 (pl.getD k nz) x h1 i1.1 i2.1
   have Om:Hid (∀ x,bQ x 0->1<=(pl.getD k nz).kind->(pl.getD k nz).kind<=10->_):=fun x hs h1 h10=>xM (pl.getD k nz) x hs h1 h10
   have HIL:=Zh (oO (pl.getD k nz));generalize aK (pl.getD k nz)=L at *;generalize mK (pl.getD k nz) k=AB at *;generalize eP (pl.getD k nz) k=SB at *;generalize rW (pl.getD k nz)=MB at *;generalize yH pl k=CI at *;generalize pl.getD k nz=n at *;obtain⟨nk,nl,nr,ns,⟨na,nc,nx⟩,ny,⟨oa,oc,ox⟩⟩:=n;unfold ai.cells ah.val at *;simp only at *;clear i1 i2 HJ HRW HBAD hpw;obtain⟨wb,hwb,hkb,hgb⟩:=aU wr #[.int .i64 nk,.int .i64 nl,.int .i64 nr,.int .i64 ns,.slice na nx.length nc,.int .i64 ny,.slice oa ox.length oc] 58;obtain⟨m0,m1,m2,m3,m4,m5,m6⟩:=hgb.k7;have jV:=Zh (aA hbw hkb);have Wv:=Zh hkb;have HSB:=Zh (hsw.below hkb);clear hgb hkb hbw hsw;by_cases b1:nk<1
   ·have HV:=Zh (yO.o (by rw[xC.o,Ql (by omega)]; rfl));clear xC yO Fs HAB HAA Oc FP qX HMO Om;go_wp2;refine QG (by kernel_rfl) (by kernel_rfl) ?_;refine qS (.pointer (some (aD wr.heap.size 0))) ?_;refine qC (.int .i64 nk) m0 ?_;refine qS (.bool true) ?_;go_big_quiet_want;refine⟨.bool true,fun x hx=>?_,?_⟩
    ·go_simp
    simp only[pU];go_big_quiet_on;go_big_quiet_skip
    try simp only[pU]
    iterate 2 (go_big_quiet_skip; try simp only[pU])
    refine qS (.bool true) ?_;go_big_quiet_want;refine⟨.bool true,fun x hx=>?_,?_⟩
    ·go_simp
    simp only[pU];go_big_quiet_on;go_big_quiet_skip
    try simp only[pU]
    iterate 6 (go_big_quiet_skip; try simp only[pU])
    refine qS (.bool true) ?_;refine Xv ?_;intro w2 hb2;have HB2:=Zh (aA jV.o hb2);clear hb2;go_wp2;go_ret;exact⟨Qg HV.o.symm,HB2.o⟩
   by_cases b2:10<nk
   ·have HV:=Zh (yO.o (by rw[xC.o,Ql (show ¬ nk<=10 by omega),Qn]; rfl));clear xC yO Fs HAB HAA Oc FP qX HMO Om;go_wp2;refine QG (by kernel_rfl) (by kernel_rfl) ?_;refine qS (.pointer (some (aD wr.heap.size 0))) ?_;refine qC (.int .i64 nk) m0 ?_;refine qS (.bool false) ?_;refine qS (.bool false) ?_;refine qS (.pointer (some (aD wr.heap.size 0))) ?_;refine qC (.int .i64 nk) m0 ?_;refine qS (.bool true) ?_;refine qS (.bool true) ?_;go_big_quiet_want;refine⟨.bool true,fun x hx=>?_,?_⟩
    ·go_simp
    simp only[pU];go_big_quiet_on;go_big_quiet_skip
    try simp only[pU]
    iterate 6 (go_big_quiet_skip; try simp only[pU])
    refine qS (.bool true) ?_;refine Xv ?_;intro w2 hb2;have HB2:=Zh (aA jV.o hb2);clear hb2;go_wp2;go_ret;exact⟨Qg HV.o.symm,HB2.o⟩
   have hMO:=fun x=>HMO.o x (by omega)
   have hIO:=fun x hs=>Om.o x hs (by omega) (by omega)
   obtain⟨K,rfl⟩:=Xo (show 0<=nk by omega);have atT:K<=10:=by omega
   obtain⟨t0,t1,t2,t3,t4⟩:=bQ.get HSB.o atT;obtain⟨s0,s1,s2,s3,s4,hsc,e0,e1,e2,e3,e4⟩:∃ s0 s1 s2 s3 s4,gW (K:Int)=#[s0,s1,s2,s3,s4]/\s0=.int .i64 (xL K)/\s1=.bool (decide ((K:Int)=1))/\s2=.bool (decide (2<=(K:Int)/\(K:Int)<=5))/\s3=.bool (decide ((K:Int)=4∨(K:Int)=5))/\s4=.bool (decide ((K:Int)=6)):=⟨_,_,_,_,_,rfl,rfl,rfl,rfl,rfl,rfl⟩
   rw[<- e0]at t0;rw[<- e1]at t1;rw[<- e2]at t2;rw[<- e3]at t3;rw[<- e4]at t4;rw[QQ]at t0 t1 t2 t3 t4;rw[hsc]at hMO;have hd1:decide (1<=(K:Int))=true:=QD (by omega);have hd2:decide ((K:Int)<=10)=true:=QD (by omega);rw[hd1,hd2]at xC;clear e0 e1 e2 e3 e4 hsc HMO Om hd1 hd2;have aqA:¬ (11:Int)<=(K:Int):=by omega
   cases MB with
   | false =>
    have HV:=Zh (yO.o (by rw[xC.o]; rfl));clear xC yO Fs HAB HAA Oc FP qX hIO;go_wp2;refine QG (by kernel_rfl) (by kernel_rfl) ?_;refine qS (.pointer (some (aD wr.heap.size 0))) ?_;refine qC (.int .i64 (K:Int)) m0 ?_;refine qS (.bool false) ?_;refine qS (.bool false) ?_;refine qS (.pointer (some (aD wr.heap.size 0))) ?_;refine qC (.int .i64 (K:Int)) m0 ?_;refine qS (.bool false) ?_;refine qS (.bool false) ?_;refine qS (.bool false) ?_;go_big_quiet_want;refine⟨.agg #[.int .i64 (K:Int),.int .i64 nl,.int .i64 nr,.int .i64 ns,.slice na nx.length nc,.int .i64 ny,.slice oa ox.length oc],fun x hx=>?_,?_⟩
    ·have e0:=IJ hx m0 m1 m2 m3 m4 m5 m6;go_simp
    simp only[pU];go_big_quiet_on;refine qS (.pointer (some (aD wr.heap.size 0))) ?_;refine qC (.int .i64 (K:Int)) m0 ?_;refine qS (.pointer (some (aD 0 (K*5)))) ?_;go_big_quiet_want;refine⟨.agg #[s0,s1,s2,s3,s4],fun x hx=>?_,?_⟩
    ·have e0:=cR5 hx t0 t1 t2 t3 t4;go_simp
    simp only[pU];go_big_quiet_on;go_big_quiet_want;refine⟨.bool false,fun x hx=>?_,?_⟩
    ·have hC:=QH hx (hMO x);go_simp
    simp only[pU];go_big_quiet_on;refine qS (.bool true) ?_;refine qS (.bool true) ?_;refine Xv ?_;intro w2 hb2;have HB2:=Zh (aA jV.o hb2);clear hb2;go_wp2;go_ret;exact⟨Qg HV.o.symm,HB2.o⟩
   | true =>
    have anE:Hid (SB=AB):=by show _=_; rw[xC.o]; rfl
    clear xC;have xC:=Zh anE.o;clear anE;go_wp2;refine QG (by kernel_rfl) (by kernel_rfl) ?_;refine qS (.pointer (some (aD wr.heap.size 0))) ?_;refine qC (.int .i64 (K:Int)) m0 ?_;refine qS (.bool false) ?_;refine qS (.bool false) ?_;refine qS (.pointer (some (aD wr.heap.size 0))) ?_;refine qC (.int .i64 (K:Int)) m0 ?_;refine qS (.bool false) ?_;refine qS (.bool false) ?_;refine qS (.bool false) ?_;go_big_quiet_want;refine⟨.agg #[.int .i64 (K:Int),.int .i64 nl,.int .i64 nr,.int .i64 ns,.slice na nx.length nc,.int .i64 ny,.slice oa ox.length oc],fun x hx=>?_,?_⟩
    ·have e0:=IJ hx m0 m1 m2 m3 m4 m5 m6;go_simp
    simp only[pU];go_big_quiet_on;refine qS (.pointer (some (aD wr.heap.size 0))) ?_;refine qC (.int .i64 (K:Int)) m0 ?_;refine qS (.pointer (some (aD 0 (K*5)))) ?_;go_big_quiet_want;refine⟨.agg #[s0,s1,s2,s3,s4],fun x hx=>?_,?_⟩
    ·have e0:=cR5 hx t0 t1 t2 t3 t4;go_simp
    simp only[pU];go_big_quiet_on;go_big_quiet_want;refine⟨.bool true,fun x hx=>?_,?_⟩
    ·have hC:=QH hx (hMO x);go_simp
    simp only[pU];go_big_quiet_on;refine qS (.bool false) ?_;refine qS (.bool false) ?_;refine Xv ?_;intro w2 hb2;have q0:=cB hb2 m0;have q1:=cB hb2 m1;have q2:=cB hb2 m2;have q3:=cB hb2 m3;have q4:=cB hb2 m4;have q5:=cB hb2 m5;have q6:=cB hb2 m6;have anF:=hIO w2 (XJ hb2 HSB.o);have rQ:=Zh (qG.o.trans (Zo (aA Wv.o hb2) (fun b hb _=>hb)));have HR2:=Zh (HRI.o.of_block ((aA Wv.o hb2).block _ HRI.o.lt));clear hb2 hMO hIO m0 m1 m2 m3 m4 m5 m6 t0 t1 t2 t3 t4 HRI HSB Wv hwb c0 c1 c2 c3 c4 c5 c6;go_wp2_with fail;refine Xt anF ?_;clear anF q0 q1 q2 q3 q4 q5 q6;rintro e w3 ⟨ib,rfl,hia,hib,hb3⟩;have rU:=Zh (rQ.o.trans (Zo hb3 (fun b hb _=>hb)));have HR3:=Zh (HR2.o.of_block (hb3.block _ HR2.o.lt));have atU:ib≠w.heap.size:=by have:=HR2.o.lt; omega
    have V3:Hid _:=hia;have hil:=HIL.o;clear hia hib hb3 rQ HR2;go_wp2;go_loopw [48] (fun iv wx=>∃ m:Nat,m<=L.length/\iv=.int .i64 m/\Hid (∀ j,j<m->0<=L.getD j 0/\L.getD j 0<(k:Int))/\Hid (wx.rowIs w.heap.size 3 pl.length (fun j=>.int .i64 ((CI m j:Nat):Int)))/\Hid (Kept (fun b=>b≠w.heap.size) w3 wx)) (fun iv _=>L.length-(intOf iv).toNat)
    case atStart=>exact⟨0,Q8 _,rfl,fun j hj=>absurd hj (by omega),HR3.o,Zn _ _⟩
    case round=>
     obtain⟨m,hm,rfl,HJ2,Ww,KZ⟩:=hrel;by_cases hlm:m<L.length
     ·obtain⟨ib',io,ei,hic⟩:=Qj V3.o hlm
      cases ei
      have hcx:=ZI (hic m hlm) KZ.o atU;rw[QQ]at hcx;have VE:=Zh (HAB.o m hlm);have VF:=Zh (Oc.o m hlm);have aei:Hid _:=fun j=>qX.o m j
      have Bd:Hid (∀ x,x=L.getD m 0->0<=x->x<(k:Int)->∀ j,j<m+1->0<=L.getD j 0/\L.getD j 0<(k:Int)):=fun x hx h0 h1 j hj=>by
       rcases Qq j m with h' | h'
       ·exact HJ2.o j h'
       ·obtain rfl:j=m:=by omega
        rw[<- hx]; exact⟨h0,h1⟩
      have ou:=Zh ((TR.o wr (rU.o.trans KZ.o)).1);clear hic HJ2 HAB Oc qX;obtain⟨x,hxe⟩:=eY (L.getD m 0)
      rw[<- hxe]at hcx VE VF;have HJ4:=Zh (Bd.o x hxe);clear hxe Bd;by_cases x0:x<0
      ·have HV:=Zh (yO.o (by rw[xC.o,VE.o (.inl x0)]));clear xC yO Fs HAA FP VE VF aei HJ4;go_wp2;go_ret;exact⟨Qg HV.o.symm,ou.o⟩
      by_cases x1:(k:Int)<=x
      ·have HV:=Zh (yO.o (by rw[xC.o,VE.o (.inr x1)]));clear xC yO Fs HAA FP VE VF aei HJ4;go_wp2;go_ret;exact⟨Qg HV.o.symm,ou.o⟩
      obtain⟨X,rfl⟩:=Xo (show 0<=x by omega);have hX:X<pl.length:=by omega
      have hcu:=Ww.o.cell hX;have hfu:=Ww.o.frozen X;have hub:=aei.o X;rw[Zj]at VF;have oz:Hid (∀ v:Nat,v=CI m X+1->(wr.setCell (aD w.heap.size X) (.int .i64 (v:Int))).rowIs w.heap.size 3 pl.length (fun j=>.int .i64 ((CI (m+1) j:Nat):Int))):=fun v hv=>
       (Ww.o.set X (.int .i64 (v:Int))).congr (fun j _=>by
        show (if j=X then _ else _)=_
        rw[VF.o j];by_cases hj:j=X
        ·rw[Qy hj,Qy hj,hj,hv]
        ·rw[Qz hj,Qz hj,Zf])
      have HJ5:=Zh (HJ4.o (by omega) (by omega));obtain⟨u,hu⟩:=eY (CI m X)
      rw[<- hu]at hcu hub oz;have hum:u<=200:=by omega
      have HKY:Hid (Kept (fun b=>b≠w.heap.size) w3 (wr.setCell (aD w.heap.size X) (.int .i64 ((u+1:Nat):Int)))):=KZ.o.trans (ZL _ _ _ (fun h=>h rfl));have acn:Hid _:=oz.o (u+1) rfl;clear hu Ww VF aei oz VE HJ4 hub;have hcast:((u+1:Nat):Int)=(u:Int)+1:=by omega
      rw[hcast]at HKY acn;clear hcast;go_wp2;go_roundw
      case rel=>exact⟨m+1,by omega,by go_num,HJ5.o,acn.o,HKY.o⟩
      case measure=>simp[intOf]; omega
     ·obtain rfl:m=L.length:=by omega
      have hab:=HAA.o HJ2.o;have HNJ:=Zh (Fs.o (by rw[xC.o,hab]));have HRN:=Zh (Ww.o.congr (fun j _=>by rw[FP.o hab j]));have HKN:=Zh (rU.o.trans KZ.o);clear hab HAA Fs xC FP Ww KZ HJ2 yO HAB Oc qX;go_wp2;go_roundw
      case rel=>exact⟨k+1,by omega,by go_num,HNJ.o,HRN.o,HKN.o⟩
      case measure=>simp[intOf]; omega
  ·obtain rfl:k=pl.length:=by omega
   have HV:=Zh (HON.o HJ.o);have HBF:=Zh hbw;have HRF:Hid (∀ j,j<pl.length->wr.cell? (aD w.heap.size j)=some (.int .i64 ((wO pl pl.length j:Nat):Int))):=fun j hj=>HRW.o.cell hj
   clear HBAD HON HJ HRW qG hbw hpw hsw TR JH;generalize wO pl pl.length=CN at *;obtain⟨N,hN⟩:=eX (pl.length-1)
   have hsub:(pl.length:Int)-1=(N:Int):=by omega
   have hNl:N<=pl.length:=by omega
   rw[hN]at HOB HOG;have Lj:=Zh hN;clear hN;go_wp2;go_loop [73] (fun iv=>∃ m:Nat,m<=N/\iv=.int .i64 m/\Hid (∀ j,j<m->CN j=1)) (fun iv=>N-(intOf iv).toNat)
   case atStart=>exact⟨0,Q8 _,rfl,fun j hj=>absurd hj (by omega)⟩
   case round=>
    obtain⟨m,hm,rfl,HJ2⟩:=hrel;by_cases hlm:m<N
    ·have hcu:=HRF.o m (by have:=Lj.o; omega);have ai3:=Zh (HOB.o hlm);have Bd:Hid (CN m=1->∀ j,j<m+1->CN j=1):=fun h j hj=>by
      rcases Qq j m with h' | h'
      ·exact HJ2.o j h'
      ·obtain rfl:j=m:=by omega
       exact h
     generalize CN m=c at *;by_cases hc:c=1
     ·have HT:=Zh (Bd.o hc);have hcb:((c:Int) != 1)=false:=by rw[hc]; rfl
      clear Bd hc ai3;go_wp2;go_round
      case rel=>exact⟨m+1,by omega,by go_num,HT.o⟩
      case measure=>simp[intOf]; omega
     ·have TL:Hid (R=false):=by show _=_; rw[HV.o]; exact ai3.o hc
      have hcb:((c:Int) != 1)=true:=by rw[bne_iff_ne]; omega
      clear Bd hc ai3;go_wp2;go_ret;exact⟨Qg TL.o.symm,HBF.o⟩
    ·have TL:Hid (R=true):=by show _=_; rw[HV.o]; exact HOG.o (fun j hj=>HJ2.o j (by omega))
     go_wp2;go_ret;exact⟨Qg TL.o.symm,HBF.o⟩
theorem Di{ts:List af}{q:ae}{pl:List ai}{k:Nat}(h:gU ts q pl k=none):∀ m,k<=m->gU ts q pl m=none
 | 0,hm => by
  obtain rfl:k=0:=by omega
  exact h
 | m+1,hm => by
  by_cases e:k=m+1
  ·rw[<- e]; exact h
  ·show (gU ts q pl m).bind _=none
   rw[Di h m (by omega)];rfl
def dR(n:ai)(ps:List az):List az:=(aK n).map fun x=>ps.getD x.toNat aT
theorem qj(n:ai)(ps:List az):(dR n ps).length=(aK n).length:=by unfold dR; simp
theorem l9(n:ai):(aK n).length=arity n.kind:=by
 unfold aK;rw[Zm];have:=og n.kind;simp;omega
theorem tL{α β:Type}(f:α->β)(l:List α)(i:Nat)(z:α):(l.map f).getD i (f z)=f (l.getD i z):=by
 by_cases h:i<l.length
 ·simp[List.getD,h]
 ·simp[List.getD,h]
theorem afL(n:ai)(ps:List az):((dR n ps).getD 0 aT).d=fK n (ps.map az.d):=by
 unfold dR aK fK;have h2:=og n.kind;rcases (by omega:arity n.kind=0∨arity n.kind=1∨arity n.kind=2) with h | h | h <;> rw[h]
 ·rfl
 ·show (ps.getD n.l.toNat aT).d=_
  rw[Qy (by omega)];exact(tL az.d ps n.l.toNat aT).symm
 ·show (ps.getD n.l.toNat aT).d=_
  rw[Qy (by omega)];exact(tL az.d ps n.l.toNat aT).symm
theorem afM(n:ai)(ps:List az):((dR n ps).getD 1 aT).d=fM n (ps.map az.d):=by
 unfold dR aK fM;have h2:=og n.kind;rcases (by omega:arity n.kind=0∨arity n.kind=1∨arity n.kind=2) with h | h | h <;> rw[h]
 ·rfl
 ·rfl
 ·show (ps.getD n.r.toNat aT).d=_
  rw[Qy rfl];exact(tL az.d ps n.r.toNat aT).symm
theorem P7(n:ai)(ps:List az):kH n.kind (dR n ps)=mE n.kind (fK n (ps.map az.d)) (fM n (ps.map az.d)):=by
 rw[<- afL,<- afM];have h2:=og n.kind;have hz:∀ {k:Int},arity k=2->decide (k=10)=false:=fun {k} h=>by
  unfold arity at h;rw[Qk];intro e;rw[e]at h;simp at h
 have hz0:∀ {k:Int},arity k=0->decide (k=10)=false:=fun {k} h=>by
  unfold arity at h;rw[Qk];intro e;rw[e]at h;simp at h
 unfold dR aK mE kH;rcases (by omega:arity n.kind=0∨arity n.kind=1∨arity n.kind=2) with h | h | h
 ·rw[h,hz0 h]; rfl
 ·rw[h]
  show (([ps.getD n.l.toNat aT]:List az).all _)=_
  simp only[List.all_cons,List.all_nil,Bool.and_true]
  show _=((eD (ps.getD n.l.toNat aT).kind==decide (n.kind=10))&&true)
  rw[Bool.and_true]
 ·rw[h]
  show (([ps.getD n.l.toNat aT,ps.getD n.r.toNat aT]:List az).all _)=_
  simp only[List.all_cons,List.all_nil,Bool.and_true]
  show _=((eD (ps.getD n.l.toNat aT).kind==decide (n.kind=10)) && !eD (ps.getD n.r.toNat aT).kind)
  rw[hz h]
  cases eD (ps.getD n.r.toNat aT).kind <;> rfl
theorem step_eq(ts:List af)(q:ae)(n:ai)(ps:List az):mQ ts q n (ps.map az.d)=if (kH n.kind (dR n ps)&&cZ ts q n ((dR n ps).getD 0 aT).d ((dR n ps).getD 1 aT).d)=true then some (ps.map az.d++[mf ts q n ((dR n ps).getD 0 aT).d ((dR n ps).getD 1 aT).d]) else none:=by
 unfold mQ;rw[P7,afL,afM]
theorem aa7(h:dK pl=true):1<=pl.length/\pl.length<=64/\∀ i,i<pl.length->eP (pl.getD i nz) i=true:=by
 unfold dK at h;simp only[Qt,QJ,Qu]at h;exact⟨h.1.1.1,h.1.1.2,fun i hi=>h.1.2 i (Xq.2 hi)⟩
theorem Dj(h:eP n i=true):1<=n.kind/\n.kind<=10/\∀ m,m<(aK n).length->0<=(aK n).getD m 0/\(aK n).getD m 0<(i:Int):=by
 unfold eP at h;simp only[Qt,Bool.or_eq_true,QJ]at h;obtain⟨⟨⟨⟨h1,h10⟩,_⟩,hl⟩,hr⟩:=h;refine⟨h1,h10,fun m hm=>?_⟩;rw[l9]at hm;have h2:=og n.kind;have e0:0<arity n.kind->(aK n).getD 0 0=n.l:=fun h=>by
  unfold aK;rcases (by omega:arity n.kind=1∨arity n.kind=2) with e | e <;> rw[e] <;> rfl
 have e1:1<arity n.kind->(aK n).getD 1 0=n.r:=fun h=>by
  unfold aK;rw[show arity n.kind=2 by omega];rfl
 rcases (by omega:m=0∨m=1) with rfl | rfl
 ·rw[e0 hm];rcases hl with hl | hl
  ·omega
  ·exact hl
 ·rw[e1 hm];rcases hr with hr | hr
  ·omega
  ·exact hr
theorem P8{n:ai}{i:Nat}(h:eP n i=true)(ho:eD n.kind=true):0<=n.l/\n.l<(i:Int):=by
 obtain⟨h1,h10,hm⟩:=Dj h;have hk:7<=n.kind:=by unfold eD at ho; simp at ho; omega
 have ha:arity n.kind=1:=by unfold arity; rw[Qz (by omega),Qz (by omega)]
 have:=hm 0 (by rw[l9,ha]; omega);have e0:(aK n).getD 0 0=n.l:=by unfold aK; rw[ha]; rfl
 rw[e0]at this;exact this
theorem aa8{ps:List az}(hm:m<(aK n).length):(dR n ps).take (m+1)=(dR n ps).take m++[ps.getD ((aK n).getD m 0).toNat aT]:=by
 have hm':m<(dR n ps).length:=by rw[qj]; exact hm
 rw[Qr hm'];congr 2;unfold dR;simp[List.getD,hm]
theorem aej(f:au)(ts:List af)(q:ae)(n:ai)(ao:Option Addr)(cap:Nat)(ps:List az)(w:World)(ok:Ok ts q)(hf:f.At ts q w)(hcl:n.cl.At w)(hco:n.co.At w)(hcap:n.co.xs.length<=n.co.cap)(hp:PartsAt w ao ps)(hk:n.kind=1)(hl:ps.length=arity n.kind) :
  Cb 130 #[.agg (f.cells ts q),.agg n.cells,.slice ao ps.length cap] w (.bool (cZ ts q n (ps.getD 0 aT).d (ps.getD 1 aT).d)):=by
 obtain⟨v0,v1,v2,v3,v4,v5,v6,v7,v8,v9,v10,v11,v12,bB,hv0,hv1,hv2,hv3,hv4,hv5,hv6,-⟩:=Xu f ts q;have om:n.cells=#[.int .i64 n.kind,.int .i64 n.l,.int .i64 n.r,.int .i64 n.source,n.cl.val,.int .i64 n.key,n.co.val]:=rfl;obtain⟨w1,hw1,hk1,hg1⟩:=aU w ((f.cells ts q)) 90;obtain⟨w2,hw2,hk2,hg2⟩:=aU w1 n.cells 58;have hc1:=hk2;have hc0:=aA hk1 hc1;have iq:=hg1.of (hc1.block _ hg1.lt);have kI:=hg2;obtain⟨jJ,lJ,lK,mZ,kr,ng,ni⟩:=kI.k7;obtain⟨dJ,dY,dH,dW,dZ,eU,eH,gy,fV,fZ,dz,dE,dA⟩:=iq.k13 (by rw[bB]; rfl);have hpw:=hp.1;have hlk:ps.length=0:=by rw[hl,hk]; rfl
 have HC:=Zh hc0;obtain⟨RES,cK⟩:∃ R,R=cZ ts q n (ps.getD 0 aT).d (ps.getD 1 aT).d:=⟨_,rfl⟩
 rw[<- cK];unfold cZ at cK;rw[Qy hk]at cK;generalize ps.getD 0 aT=L at *;generalize ps.getD 1 aT=R at *;rw[hv0]at dJ;have kJ:=Zh cK;rw[bB,om];rw[bB]at hw1;rw[om]at hw2;clear cK hg1 hg2 iq kI hk1 hk2 hc0 hc1 hlk hl;clear hf hcl hco hcap hp ok bB om hv0 hv1 hv2 hv3 hv4 hv5 hv6;obtain⟨nk,nl,nr,ns,⟨ca,cc,cl⟩,key,⟨da,dc,co⟩⟩:=n;simp only at hk;subst hk;simp only[az.cells,ai.cells,ah.val]at *;generalize q.src.xs.length=N at *;by_cases s0:0<=ns
 ·by_cases s1:ns<(N:Int)
  ·have HV:Hid (RES=true):=by show _=_; rw[kJ.o,QD s0,QD s1]; rfl
   clear kJ;go_enter Tryz.func130,Tryz.ntmps130;go_wp2;go_ret;exact⟨Qg HV.o.symm,HC.o⟩
  ·have HV:Hid (RES=false):=by show _=_; rw[kJ.o,QD s0,Ql s1]; rfl
   clear kJ;go_enter Tryz.func130,Tryz.ntmps130;go_wp2;go_ret;exact⟨Qg HV.o.symm,HC.o⟩
 ·have HV:Hid (RES=false):=by show _=_; rw[kJ.o,Ql s0]; rfl
  clear kJ;go_enter Tryz.func130,Tryz.ntmps130;go_wp2;go_ret;exact⟨Qg HV.o.symm,HC.o⟩
theorem aek(f:au)(ts:List af)(q:ae)(n:ai)(ao:Option Addr)(cap:Nat)(ps:List az)(w:World)(ok:Ok ts q)(hf:f.At ts q w)(hcl:n.cl.At w)(hco:n.co.At w)(hcap:n.co.xs.length<=n.co.cap)(hp:PartsAt w ao ps)(hk:n.kind=2)(hl:ps.length=arity n.kind) :
  Cb 130 #[.agg (f.cells ts q),.agg n.cells,.slice ao ps.length cap] w (.bool (cZ ts q n (ps.getD 0 aT).d (ps.getD 1 aT).d)):=by
 obtain⟨v0,v1,v2,v3,v4,v5,v6,v7,v8,v9,v10,v11,v12,bB,hv0,hv1,hv2,hv3,hv4,hv5,hv6,-⟩:=Xu f ts q;have om:n.cells=#[.int .i64 n.kind,.int .i64 n.l,.int .i64 n.r,.int .i64 n.source,n.cl.val,.int .i64 n.key,n.co.val]:=rfl;obtain⟨w1,hw1,hk1,hg1⟩:=aU w ((f.cells ts q)) 90;obtain⟨w2,hw2,hk2,hg2⟩:=aU w1 n.cells 58;have hc1:=hk2;have hc0:=aA hk1 hc1;have iq:=hg1.of (hc1.block _ hg1.lt);have kI:=hg2;obtain⟨jJ,lJ,lK,mZ,kr,ng,ni⟩:=kI.k7;obtain⟨dJ,dY,dH,dW,dZ,eU,eH,gy,fV,fZ,dz,dE,dA⟩:=iq.k13 (by rw[bB]; rfl);have hpw:=hp.1;have hlk:ps.length=1:=by rw[hl,hk]; rfl
 have HC:=Zh hc0;obtain⟨RES,cK⟩:∃ R,R=cZ ts q n (ps.getD 0 aT).d (ps.getD 1 aT).d:=⟨_,rfl⟩
 rw[<- cK];unfold cZ at cK;rw[Qz (by rw[hk]; decide),Qy hk]at cK;have hl0:0<ps.length:=by omega
 obtain⟨⟨pb,po,rfl,c0,c1,c2,c3,c4,c5⟩,hLo⟩:=(Xb hc0 hp).2 0 hl0;rw[QP,Zf]at c0 c1 c2 c3 c4 c5;generalize ps.getD 0 aT=L at *;generalize ps.getD 1 aT=R at *;have HCF:Hid (∀ x,Bw w2 x->Cb 199 #[.agg (f.cells ts q),n.cl.val,.int .u64 (L.sources:Int)] x (.bool (iW ts q n.cl.xs L.sources))):=fun x hx=>sj f ts q n.cl.ad n.cl.cap n.cl.xs L.sources x ok (hf.below (aA hc0 hx)) (Qv (aA hc0 hx) hcl) (by have:=hLo.sources; unfold bV at this; omega)
 have aqp:=hcl.1;rw[bB]at HCF;have cK:RES=(decide (0<n.cl.xs.length)&&iW ts q n.cl.xs L.sources):=cK;generalize iW ts q n.cl.xs L.sources=RB at *;have kJ:=Zh cK;rw[bB,om];rw[bB]at hw1;rw[om]at hw2;clear cK hg1 hg2 iq kI hk1 hk2 hc0 hc1 hlk hl;clear hf hcl hco hcap hp ok bB om hv0 hv1 hv2 hv3 hv4 hv5 hv6;obtain⟨nk,nl,nr,ns,⟨ca,cc,cl⟩,key,⟨da,dc,co⟩⟩:=n;simp only at hk;subst hk;obtain⟨lk,ls,Gx,⟨la,Fx,lx⟩,lz,LZ⟩:=L;simp only[az.cells,ai.cells,ah.val]at *;by_cases z:0<cl.length
 ·have HV:Hid (RES=RB):=by show _=_; rw[kJ.o,QD z]; rfl
  clear kJ;go_enter Tryz.func130,Tryz.ntmps130;go_upto_region 5 with fail;clear hw1 hw2;refine QG (by kernel_rfl) (by kernel_rfl) ?_;refine qS (.pointer (some (aD w1.heap.size 4))) ?_;refine qC (.slice ca cl.length cc) kr ?_;refine qS (.int .i64 (cl.length:Int)) ?_;refine qS (.bool true) ?_;refine qS (.bool true) ?_;go_big_quiet_want;refine⟨.agg #[v0,v1,v2,v3,v4,v5,v6,v7,v8,v9,v10,v11,v12],fun x hx=>?_,?_⟩
  ·have e0:=lI hx dJ dY dH dW dZ eU eH gy fV fZ dz dE dA;go_simp
  simp only[pU];go_big_quiet_on;refine qS (.pointer (some (aD w1.heap.size 4))) ?_;refine qC (.slice ca cl.length cc) kr ?_;refine qS (.slice (some (aD pb po)) ps.length cap) ?_;refine qS (.pointer (some (aD pb po))) ?_;refine qS (.pointer (some (aD pb (po+1)))) ?_;refine qC (.int .u64 (ls:Int)) c1 ?_;go_big_quiet_want;refine⟨.bool RB,fun x hx=>?_,?_⟩
  ·have hC:=QH hx (HCF.o x hx);go_simp
  simp only[pU];go_big_quiet_on;refine qS (.bool RB) ?_;refine qS (.bool RB) ?_;refine Xv ?_;intro wE mM;have jk:=Zh (aA HC.o mM);clear mM;go_wp2;go_ret;exact⟨Qg HV.o.symm,jk.o⟩
 ·have HV:Hid (RES=false):=by show _=_; rw[kJ.o,Ql z]; rfl
  obtain rfl:cl=[]:=QL (by omega);simp only[ZA]at *;clear kJ;go_enter Tryz.func130,Tryz.ntmps130;go_upto_region 5 with fail;clear hw1 hw2;refine QG (by kernel_rfl) (by kernel_rfl) ?_;refine qS (.pointer (some (aD w1.heap.size 4))) ?_;refine qC (.slice ca 0 cc) kr ?_;refine qS (.int .i64 0) ?_;refine qS (.bool false) ?_;go_big_quiet_want;refine⟨.bool false,fun x hx=>?_,?_⟩
  ·go_simp
  simp only[pU];go_big_quiet_on;go_big_quiet_skip
  try simp only[pU]
  iterate 7 (go_big_quiet_skip; try simp only[pU])
  refine qS (.bool false) ?_;refine qS (.bool false) ?_;refine Xv ?_;intro wE mM;have jk:=Zh (aA HC.o mM);clear mM;go_wp2;go_ret;exact⟨Qg HV.o.symm,jk.o⟩
theorem ael(f:au)(ts:List af)(q:ae)(n:ai)(ao:Option Addr)(cap:Nat)(ps:List az)(w:World)(ok:Ok ts q)(hf:f.At ts q w)(hcl:n.cl.At w)(hco:n.co.At w)(hcap:n.co.xs.length<=n.co.cap)(hp:PartsAt w ao ps)(hk:n.kind=3)(hl:ps.length=arity n.kind) :
  Cb 130 #[.agg (f.cells ts q),.agg n.cells,.slice ao ps.length cap] w (.bool (cZ ts q n (ps.getD 0 aT).d (ps.getD 1 aT).d)):=by
 obtain⟨v0,v1,v2,v3,v4,v5,v6,v7,v8,v9,v10,v11,v12,bB,hv0,hv1,hv2,hv3,hv4,hv5,hv6,-⟩:=Xu f ts q;have om:n.cells=#[.int .i64 n.kind,.int .i64 n.l,.int .i64 n.r,.int .i64 n.source,n.cl.val,.int .i64 n.key,n.co.val]:=rfl;obtain⟨w1,hw1,hk1,hg1⟩:=aU w ((f.cells ts q)) 90;obtain⟨w2,hw2,hk2,hg2⟩:=aU w1 n.cells 58;have hc1:=hk2;have hc0:=aA hk1 hc1;have iq:=hg1.of (hc1.block _ hg1.lt);have kI:=hg2;obtain⟨jJ,lJ,lK,mZ,kr,ng,ni⟩:=kI.k7;obtain⟨dJ,dY,dH,dW,dZ,eU,eH,gy,fV,fZ,dz,dE,dA⟩:=iq.k13 (by rw[bB]; rfl);have hpw:=hp.1;have hlk:ps.length=2:=by rw[hl,hk]; rfl
 have HC:=Zh hc0;obtain⟨RES,cK⟩:∃ R,R=cZ ts q n (ps.getD 0 aT).d (ps.getD 1 aT).d:=⟨_,rfl⟩
 rw[<- cK];unfold cZ at cK;rw[Qz (by rw[hk]; decide),Qz (by rw[hk]; decide),Qy hk]at cK;have hl0:0<ps.length:=by omega
 obtain⟨⟨pb,po,rfl,c0,c1,c2,c3,c4,c5⟩,hLo⟩:=(Xb hc0 hp).2 0 hl0;rw[QP,Zf]at c0 c1 c2 c3 c4 c5;have hl1:1<ps.length:=by omega
 have anG:(1:Int)<(ps.length:Int):=by omega
 obtain⟨⟨pb',po',e',d0,d1,d2,d3,d4,d5⟩,hRo⟩:=(Xb hc0 hp).2 1 hl1
 cases e'
 rw[Nat.one_mul]at d0 d1 d2 d3 d4 d5;generalize ps.getD 0 aT=L at *;generalize ps.getD 1 aT=R at *;have WA:Hid (∀ x,Bw w2 x->Cb 200 #[.agg (f.cells ts q),.agg n.cells,.agg L.cells,.agg R.cells] x (.bool (kg ts q n L.sources R.sources))):=fun x hx=>qJ f ts q n L R x ok (hf.below (aA hc0 hx)) (Qv (aA hc0 hx) hcl) hLo.sources hRo.sources
 rw[bB]at WA;have cK:RES=kg ts q n L.sources R.sources:=cK;generalize kg ts q n L.sources R.sources=RB at *;have kJ:=Zh cK;rw[bB,om];rw[bB]at hw1;rw[om]at hw2;clear cK hg1 hg2 iq kI hk1 hk2 hc0 hc1 hlk hl;clear hf hcl hco hcap hp ok bB om hv0 hv1 hv2 hv3 hv4 hv5 hv6;obtain⟨nk,nl,nr,ns,⟨ca,cc,cl⟩,key,⟨da,dc,co⟩⟩:=n;simp only at hk;subst hk;obtain⟨lk,ls,Gx,⟨la,Fx,lx⟩,lz,LZ⟩:=L;obtain⟨rk,rs,rcl,⟨ra,rcp,rx⟩,rz,rco⟩:=R;simp only[az.cells,ai.cells,ah.val]at *;have HV:=Zh kJ.o;clear kJ;go_enter Tryz.func130,Tryz.ntmps130;go_upto_region 7 with fail;clear hw1 hw2;refine QG (by kernel_rfl) (by kernel_rfl) ?_;go_big_quiet_want;refine⟨.agg #[v0,v1,v2,v3,v4,v5,v6,v7,v8,v9,v10,v11,v12],fun x hx=>?_,?_⟩
 ·have e0:=lI hx dJ dY dH dW dZ eU eH gy fV fZ dz dE dA;go_simp
 simp only[pU];go_big_quiet_on;go_big_quiet_want;refine⟨.agg #[.int .i64 3,.int .i64 nl,.int .i64 nr,.int .i64 ns,.slice ca cl.length cc,.int .i64 key,.slice da co.length dc],fun x hx=>?_,?_⟩
 ·have e0:=IJ hx jJ lJ lK mZ kr ng ni;go_simp
 simp only[pU];go_big_quiet_on;refine qS (.slice (some (aD pb po)) ps.length cap) ?_;refine qS (.pointer (some (aD pb po))) ?_;go_big_quiet_want;refine⟨.agg #[.int .i64 lk,.int .u64 (ls:Int),.int .u64 (Gx:Int),.slice la lx.length Fx,.int .u64 (lz:Int),.int .u64 (LZ:Int)],fun x hx=>?_,?_⟩
 ·have e0:=MI hx c0 c1 c2 c3 c4 c5;go_simp
 simp only[pU];go_big_quiet_on;refine qS (.slice (some (aD pb po)) ps.length cap) ?_;refine qS (.pointer (some (aD pb (po+6)))) ?_;go_big_quiet_want;refine⟨.agg #[.int .i64 rk,.int .u64 (rs:Int),.int .u64 (rcl:Int),.slice ra rx.length rcp,.int .u64 (rz:Int),.int .u64 (rco:Int)],fun x hx=>?_,?_⟩
 ·have e0:=MI hx d0 d1 d2 d3 d4 d5;go_simp
 simp only[pU];go_big_quiet_on;go_big_quiet_want;refine⟨.bool RB,fun x hx=>?_,?_⟩
 ·have hC:=QH hx (WA.o x hx);go_simp
 simp only[pU];go_big_quiet_on;refine qS (.bool RB) ?_;refine Xv ?_;intro wE mM;have jk:=Zh (aA HC.o mM);clear mM;go_wp2;go_ret;exact⟨Qg HV.o.symm,jk.o⟩
def zP(ts:List af)(q:ae)(n:ai)(l r:bZ):Bool:=
 (iM ts q n l.sources r.sources).2.2&&kg ts q n l.sources r.sources&&aP l.order [(iM ts q n l.sources r.sources).1]&&aP r.order [(iM ts q n l.sources r.sources).2.1]
theorem EK(f:au)(ts:List af)(q:ae)(n:ai)(l r:az)(w:World)(ok:Ok ts q)(hf:f.At ts q w)(hn:n.cl.At w)(hl:l.Ok w)(hr:r.Ok w) :
  Cb 202 #[.agg (f.cells ts q),.agg n.cells,.agg l.cells,.agg r.cells] w (.bool (zP ts q n l.d r.d)):=by
 obtain⟨v0,v1,v2,v3,v4,v5,v6,v7,v8,v9,v10,v11,v12,bB,-⟩:=Xu f ts q;have om:n.cells=#[.int .i64 n.kind,.int .i64 n.l,.int .i64 n.r,.int .i64 n.source,n.cl.val,.int .i64 n.key,n.co.val]:=rfl;have hLC:l.cells=#[.int .i64 l.kind,.int .u64 (l.sources:Int),.int .u64 (l.clauses:Int),l.order.val,.int .u64 (l.size:Int),.int .u64 (l.cost:Int)]:=rfl;have hRC:r.cells=#[.int .i64 r.kind,.int .u64 (r.sources:Int),.int .u64 (r.clauses:Int),r.order.val,.int .u64 (r.size:Int),.int .u64 (r.cost:Int)]:=rfl;obtain⟨w1,hw1,hk1,hg1⟩:=aU w ((f.cells ts q)) 90;obtain⟨w2,hw2,hk2,hg2⟩:=aU w1 n.cells 58;obtain⟨w3,hw3,hk3,hg3⟩:=aU w2 l.cells 95;obtain⟨w4,hw4,hk4,hg4⟩:=aU w3 r.cells 95;have hc3:=hk4;have hc2:=aA hk3 hc3;have hc1:=aA hk2 hc2;have hc0:=aA hk1 hc1;have iq:=hg1.of (hc1.block _ hg1.lt);have kI:=hg2.of (hc2.block _ hg2.lt);obtain⟨jJ,lJ,lK,mZ,kr,ng,ni⟩:=kI.k7;have gg3:=hg3.of (hc3.block _ hg3.lt);obtain⟨anH,NP,anI,anJ,anK,anL⟩:=gg3.k6;have gg4:=hg4;obtain⟨anM,NQ,anN,anO,anP,anQ⟩:=gg4.k6;obtain⟨dJ,dY,dH,dW,dZ,eU,eH,gy,fV,fZ,dz,dE,dA⟩:=iq.k13 (by rw[bB]; rfl);have hKC:=nS f ts q n l r w4 ok (hf.below hc0) (Qv hc0 hn) hl.sources hr.sources;have WA:Hid (∀ x,Bw w4 x->_):=fun x hb=>qJ f ts q n l r x ok (hf.below (aA hc0 hb)) (Qv (aA hc0 hb) hn) hl.sources hr.sources
 have OO:Hid (∀ x b c,Bw w4 x->x.cell? (aD b 0)=some (.int .i64 c)->Cb 205 #[.slice l.order.ad l.order.xs.length l.order.cap,.slice (some (aD b 0)) 1 1] x (.bool (aP l.order.xs [c]))):=
  fun x b c hb h0=>jI l.order.ad (some (aD b 0)) l.order.cap 1 l.order.xs [c] x (Qv (aA hc0 hb) hl.order) ⟨by simp,fun i hi=>⟨b,0,rfl,by
   have hi':i<1:=hi;obtain rfl:i=0:=by omega
   exact h0⟩⟩ hl.cap
 have DI:Hid (∀ x b c,Bw w4 x->x.cell? (aD b 0)=some (.int .i64 c)->Cb 205 #[.slice r.order.ad r.order.xs.length r.order.cap,.slice (some (aD b 0)) 1 1] x (.bool (aP r.order.xs [c]))):=
  fun x b c hb h0=>jI r.order.ad (some (aD b 0)) r.order.cap 1 r.order.xs [c] x (Qv (aA hc0 hb) hr.order) ⟨by simp,fun i hi=>⟨b,0,rfl,by
   have hi':i<1:=hi;obtain rfl:i=0:=by omega
   exact h0⟩⟩ hr.cap
 have HME:Hid (zP ts q n l.d r.d=((iM ts q n l.sources r.sources).2.2&&kg ts q n l.sources r.sources&&aP l.order.xs [(iM ts q n l.sources r.sources).1]&&aP r.order.xs [(iM ts q n l.sources r.sources).2.1])):=rfl;have HC:=Zh hc0;rw[bB,om,hLC,hRC]at hKC WA;rw[bB]at hw1;rw[om]at hw2;rw[hLC]at hw3;rw[hRC]at hw4;rw[bB,om,hLC,hRC];generalize zP ts q n l.d r.d=MP at *;generalize kg ts q n l.sources r.sources=JP at *;generalize iM ts q n l.sources r.sources=KP at *;clear bB om hLC hRC hg1 hg2 hg3 hg4 iq kI gg3 gg4 hk1 hk2 hk3 hk4 hc0 hc1 hc2 hc3 hf hn hl hr ok;obtain⟨ka,kb,kok⟩:=KP;obtain⟨nk,nl,nr,ns,⟨na,nc,nx⟩,ny,⟨oa,oc,ox⟩⟩:=n;obtain⟨lk,ls,Gx,⟨la,Fx,lx⟩,lz,LZ⟩:=l;obtain⟨rk,rs,rcl,⟨ra,rcp,rx⟩,rz,rco⟩:=r;unfold ah.val at *;simp only at *
 cases kok with
 | false =>
  have HV:Hid (MP=false):=by show _=_; rw[HME.o]; rfl
  clear HME WA OO DI;go_enter Tryz.func202,Tryz.ntmps202;go_wp2_with fail;refine Xt hKC ?_;clear hKC;rintro e w5 ⟨rfl,hb5⟩;have kF:=Zh (aA HC.o hb5);clear hb5;go_wp2;go_ret;exact⟨Qg HV.o.symm,kF.o⟩
 | true =>
  go_enter Tryz.func202,Tryz.ntmps202;go_wp2_with fail;refine Xt hKC ?_;clear hKC hw1 hw2 hw3 hw4;rintro e w5 ⟨rfl,hb5⟩;have Ee:=cB hb5 dJ;have Ef:=cB hb5 dY;have Eg:=cB hb5 dH;have Eh:=cB hb5 dW;have Ei:=cB hb5 dZ;have Ej:=cB hb5 eU;have Em:=cB hb5 eH;have En:=cB hb5 gy;have Eo:=cB hb5 fV;have Ep:=cB hb5 fZ;have uY:=cB hb5 dz;have uZ:=cB hb5 dE;have ve:=cB hb5 dA;have aem:=cB hb5 jJ;have aen:=cB hb5 lJ;have aeo:=cB hb5 lK;have aep:=cB hb5 mZ;have aeq:=cB hb5 kr;have aer:=cB hb5 ng;have aes:=cB hb5 ni;have atW:=cB hb5 anH;have atX:=cB hb5 anM;have Ux:=cB hb5 NP;have YJ:=cB hb5 NQ;have atY:=cB hb5 anI;have atZ:=cB hb5 anN;have anS:=cB hb5 anJ;have anT:=cB hb5 anO;have at0:=cB hb5 anK;have at1:=cB hb5 anP;have at5:=cB hb5 anL;have at6:=cB hb5 anQ;have hJF:=WA.o w5 hb5;have kF:=Zh hb5;have HC5:=Zh (aA HC.o hb5);clear hb5 dJ dY dH dW dZ eU eH gy fV fZ dz dE dA jJ lJ lK mZ kr ng ni anH NP anI anJ anK anL anM NQ anN anO anP anQ
  cases JP with
  | false =>
   have HV:Hid (MP=false):=by show _=_; rw[HME.o]; rfl
   clear HME WA OO DI;go_wp2_with fail;refine Xt hJF ?_;clear hJF;rintro e w6 ⟨rfl,hb6⟩;have Af:=Zh (aA HC5.o hb6);clear hb6;go_wp2;go_ret;exact⟨Qg HV.o.symm,Af.o⟩
  | true =>
   have R7:Hid (MP=(aP lx [ka]&&aP rx [kb])):=by show _=_; rw[HME.o]; rfl
   clear HME WA;go_wp2_with fail;refine Xt hJF ?_;clear hJF;rintro e w6 ⟨rfl,hb6⟩;have e3:=cB hb6 anS;have e4:=cB hb6 anT;have Af:=Zh (aA kF.o hb6);have HC6:=Zh (aA HC5.o hb6);clear hb6 Ee Ef Eg Eh Ei Ej Em En Eo Ep uY uZ ve aem aen aeo aep aeq aer aes atW Ux atY anS at0 at5 atX YJ atZ anT at1 at6;obtain⟨wa,JY⟩:∃ x,w6.alloc (.cells #[.int .i64 ka] 3)=x:=⟨_,rfl⟩
   have hka:Bw w6 wa:=by rw[<- JY]; exact dn _ _
   have hB1:=OO.o wa w6.heap.size ka (aA Af.o hka) (by rw[<- JY]; simp);have HBA:=Zh (aA Af.o hka);have FP:=Zh (aA HC6.o hka);have e4a:=cB hka e4;clear hka;generalize aP lx [ka]=S1 at *
   cases S1 with
   | false =>
    have HV:Hid (MP=false):=by show _=_; rw[R7.o]; rfl
    clear R7;go_wp2_with fail;refine Xt hB1 ?_;clear hB1 JY;rintro e w7 ⟨rfl,iZ⟩;have Yc:=Zh (aA FP.o iZ);clear iZ;go_wp2;go_ret;exact⟨Qg HV.o.symm,Yc.o⟩
   | true =>
    have HV:Hid (MP=aP rx [kb]):=by show _=_; rw[R7.o]; rfl
    clear R7;go_wp2_with fail;refine Xt hB1 ?_;clear hB1 JY;rintro e w7 ⟨rfl,iZ⟩;have e47:=cB iZ e4a;have Yc:=Zh (aA HBA.o iZ);have HC7:=Zh (aA FP.o iZ);clear iZ e4 e4a e3;obtain⟨wb,hwb⟩:∃ x,w7.alloc (.cells #[.int .i64 kb] 3)=x:=⟨_,rfl⟩
    have hkb:Bw w7 wb:=by rw[<- hwb]; exact dn _ _
    have hB2:=DI.o wb w7.heap.size kb (aA Yc.o hkb) (by rw[<- hwb]; simp);rw[<- HV.o]at hB2;have qX:=Zh (aA HC7.o hkb);clear hkb HV;go_wp2_with fail;refine Xt hB2 ?_;clear hB2 hwb;rintro e w8 ⟨rfl,Ag⟩;have HB8:=Zh (aA qX.o Ag);clear Ag;go_wp2;go_ret;exact⟨rfl,HB8.o⟩
