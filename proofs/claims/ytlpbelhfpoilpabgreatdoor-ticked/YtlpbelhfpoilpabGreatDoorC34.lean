import Derived.RegionTactic
import Derived.BigQuiet
import Derived.Test.YtlpbelhfpoilpabGreatDoorC01
import Derived.Test.YtlpbelhfpoilpabGreatDoorC04
import Derived.Test.YtlpbelhfpoilpabGreatDoorC05
import Derived.Test.YtlpbelhfpoilpabGreatDoorC13
import Derived.Test.YtlpbelhfpoilpabGreatDoorC14
import Derived.Test.YtlpbelhfpoilpabGreatDoorC18
import Derived.Test.YtlpbelhfpoilpabGreatDoorC31
import Derived.Test.YtlpbelhfpoilpabGreatDoorC32
import Derived.Test.YtlpbelhfpoilpabGreatDoorC33
set_option linter.all false
set_option maxRecDepth 100000
set_option maxHeartbeats 16000000
namespace Go.Proofs.YtlpbelhfpoilpabGreatDoor
open Go.RowKit Go.Scout
theorem isFull1_any (ad:Option Addr) (n cap:Nat) (w:World) :
  Calls Tryz.prog 57 #[.agg #[.slice ad n cap]] w fun e w'=>e=.returned (.bool (decide (3<n)))/\Below w.heap.size w w':=by
 go_enter Tryz.func57,Tryz.ntmps57;go_wp2;go_ret;exact⟨ret_bool (decide_eq_decide.2 (by omega)),bQ2 _ _⟩
theorem indexC_any (ao:Option Addr) (cap:Nat) (ls:List ClauseV) (w:World) (hx:ClausesAt w ao ls) :
  Calls Tryz.prog 85 #[.slice ao ls.length cap,.func (.func 57) #[] #[]] w fun e w'=>∃ r,e=.returned (.int .i64 r)/\foundAt r (ls.any fun c=>decide (3<c.cs.length))/\Below w.heap.size w w':=by
 have hl:=hx.1;go_enter Tryz.func85,Tryz.ntmps85;go_wp2;go_loopw [8] (fun i wr=>∃ k:Nat,k<=ls.length/\i=.int .i64 k/\Hid (∀ j,j<k->decide (3<(ls.getD j lz).cs.length)=false)/\Below w.heap.size w wr) (fun i _=>ls.length-(intOf i).toNat)
 case atStart=>exact⟨0,Nat.zero_le _,rfl,fun j hj=>absurd hj (by omega),Below.refl _ _⟩
 case round=>
  obtain⟨k,hk,rfl,HP,hb⟩:=hrel;by_cases hlt:k<ls.length
  ·obtain⟨b,off,rfl,hc⟩:=hx.2.1.get hlt;have hck:=cB hb (hc k hlt);unfold ClauseV.val at hck;have HA:Hid (decide (3<(ls.getD k lz).cs.length)=true->(ls.any fun c=>decide (3<c.cs.length))=true):=fun h=>any_at (p:=fun c:ClauseV=>decide (3<c.cs.length)) (z:=lz) hlt h
   generalize (ls.getD k lz).ad=ad at *;generalize (ls.getD k lz).cap=cp at *;generalize hge:(ls.getD k lz).cs.length=cl at *;have HGE:Hid ((ls.getD k lz).cs.length=cl):=hge;have hC:=isFull1_any ad cl cp wr;clear hge hc hx;by_cases h3:3<cl
   ·rw[decide_eq_true h3] at hC;go_wp2_with fail;refine hC.mono ?_;clear hC;rintro e w2 ⟨rfl,hb2⟩;go_wp2;go_ret;exact⟨_,ret_int rfl,⟨by omega,by rw[HA.out (decide_eq_true h3)]; simp⟩,bQ1 hb hb2⟩
   ·rw[decide_eq_false h3] at hC;go_wp2_with fail;refine hC.mono ?_;clear hC;rintro e w2 ⟨rfl,hb2⟩;go_wp2;go_roundw
    case rel=>
     refine⟨k+1,by omega,by go_num,fun j hj=>?_,bQ1 hb hb2⟩;by_cases hjk:j=k
     ·subst hjk; rw[HGE.out]; exact decide_eq_false (by omega)
     ·exact HP.out j (by omega)
    case measure=>simp[intOf]; omega
  ·have HA:Hid ((ls.any fun c=>decide (3<c.cs.length))=false):=any_none (z:=lz) (fun j hj=>HP.out j (by omega));go_wp2;go_ret;exact⟨_,ret_int rfl,⟨by omega,by rw[HA.out]; rfl⟩,hb⟩
theorem containsC_any (ao:Option Addr) (cap:Nat) (ls:List ClauseV) (w:World) (hx:ClausesAt w ao ls) :
  Calls Tryz.prog 56 #[.slice ao ls.length cap,.func (.func 57) #[] #[]] w fun e w'=>e=.returned (.bool (wideB ls ls.length))/\Below w.heap.size w w':=by
 have hC:=indexC_any ao cap ls w hx;rw[wide_any] at hC;go_enter Tryz.func56,Tryz.ntmps56;go_wp2_with fail;refine hC.mono ?_;clear hC;rintro e w2 ⟨r,rfl,hr,hb2⟩;have HR:Hid _:=hr.2;clear hr;go_wp2;go_ret;exact⟨ret_bool HR.out,hb2⟩
theorem isFull_any (q:QueryV) (w:World) (hq:ClausesAt w q.wad q.wh) :
  Calls Tryz.prog 34 #[.agg q.cells] w fun e w'=>e=.returned (.bool (fullB q.src.xs q.whs q.keys.xs q.sums.xs q.sel.xs q.ord.xs))/\Below w.heap.size w w':=by
 have HE:Hid _:=q.full_eq;generalize fullB q.src.xs q.whs q.keys.xs q.sums.xs q.sel.xs q.ord.xs=FB at *;have hC:=fun o=>containsC_any q.wad q.wcap q.wh (w.alloc o) (hq.below (bQ2 _ _))
 have hwl:=hq.1;clear hq;obtain⟨src,wad,wcap,wh,group,keys,sums,sel,ord⟩:=q;simp only at HE hC hwl;unfold QueryV.cells IntsV.val;simp only;by_cases hf:5<src.xs.length∨8<wh.length∨8<sel.xs.length∨4<keys.xs.length∨4<sums.xs.length∨4<ord.xs.length
 ·have HF:Hid (true=FB):=show true=FB by rw[HE.out,decide_eq_true hf,Bool.true_or]
  clear hC HE;have hcase:(5<src.xs.length)∨(¬ 5<src.xs.length/\8<wh.length)∨(¬ 5<src.xs.length/\¬ 8<wh.length/\4<ord.xs.length)∨(¬ 5<src.xs.length/\¬ 8<wh.length/\¬ 4<ord.xs.length/\8<sel.xs.length)∨
   (¬ 5<src.xs.length/\¬ 8<wh.length/\¬ 4<ord.xs.length/\¬ 8<sel.xs.length/\4<keys.xs.length)∨(¬ 5<src.xs.length/\¬ 8<wh.length/\¬ 4<ord.xs.length/\¬ 8<sel.xs.length/\¬ 4<keys.xs.length/\4<sums.xs.length):=by omega
  clear hf;rcases hcase with h1 | ⟨h1,h2⟩ | ⟨h1,h2,h3⟩ | ⟨h1,h2,h3,h4⟩ | ⟨h1,h2,h3,h4,h5⟩ | ⟨h1,h2,h3,h4,h5,h6⟩
  all_goals
   go_enter Tryz.func34,Tryz.ntmps34;go_wp2;go_ret;exact⟨ret_bool HF.out,bQ2 _ _⟩
 ·have HF:Hid (wideB wh wh.length=FB):=show wideB wh wh.length=FB by rw[HE.out,decide_eq_false hf,Bool.false_or]
  have h1:¬ 5<src.xs.length:=by omega
  have h2:¬ 8<wh.length:=by omega
  have h3:¬ 8<sel.xs.length:=by omega
  have h4:¬ 4<keys.xs.length:=by omega
  have h5:¬ 4<sums.xs.length:=by omega
  have h6:¬ 4<ord.xs.length:=by omega
  clear HE hf;generalize wideB wh wh.length=Y at *;go_enter Tryz.func34,Tryz.ntmps34;go_wp2_with fail;refine (hC _).mono ?_;clear hC;rintro e w2 ⟨rfl,hb2⟩;go_wp2;go_ret;exact⟨ret_bool HF.out,bQ1 (bQ2 _ _) hb2⟩
theorem outWidth_any (q:QueryV) (w:World) (h1:q.keys.xs.length<=1000) (h2:q.sums.xs.length<=1000) :
  Calls Tryz.prog 62 #[.agg q.cells] w fun e w'=>e=.returned (.int .i64 (outN q.group q.keys.xs q.sums.xs q.sel.xs))/\Below w.heap.size w w':=by
 obtain⟨src,wad,wcap,wh,group,keys,sums,sel,ord⟩:=q;simp only at h1 h2;unfold QueryV.cells IntsV.val
 cases group
 ·go_enter Tryz.func62,Tryz.ntmps62;go_wp2;go_ret;exact⟨ret_int rfl,bQ2 _ _⟩
 ·go_enter Tryz.func62,Tryz.ntmps62;go_wp2;go_ret;exact⟨ret_int rfl,bQ2 _ _⟩
theorem countColumns_any (ao:Option Addr) (cap:Nat) (ts:List TableD) (sad:Option Addr) (scap:Nat) (xs:List Int) (w:World) (hx:TablesAt w ao ts) (hc:catB ts=true) (hq:IntsAt w sad xs) (h5:xs.length<=5) (ha:allB xs ts.length=true) :
  Calls Tryz.prog 59 #[.slice ao ts.length cap,.slice sad xs.length scap] w fun e w'=>e=.returned (.int .i64 (widthN ts xs))/\w' = w:=by
 have hl:=hx.1;have HC:Hid (catB ts=true):=hc;have HA:Hid (allB xs ts.length=true):=ha;clear hc ha;go_enter Tryz.func59,Tryz.ntmps59;go_wp2;go_loop [5,10] (fun n i=>∃ k:Nat,k<=xs.length/\i=.int .i64 k/\n=.int .i64 (widthN ts (xs.take k))) (fun _ i=>xs.length-(intOf i).toNat)
 case atStart=>exact⟨0,Nat.zero_le _,rfl,rfl⟩
 case round=>
  obtain⟨k,hk,rfl,rfl⟩:=hrel;have hbd:=widthN_bd HC.out HA.out k hk;by_cases hlt:k<xs.length
  ·obtain⟨sb,soff,rfl,hs⟩:=hq.get hlt;have hsk:=hs k hlt;have hr:=allB_at HA.out hlt;have hcol:=cols_of HC.out (i:=xs[k].toNat) (by omega);obtain⟨b,off,rfl,c0,-⟩:=hx.2 xs[k].toNat (by omega);have HS:Hid (widthN ts (xs.take (k+1))=widthN ts (xs.take k)+(ts.getD xs[k].toNat tz).cols):=widthN_snoc ts xs k hlt;generalize (ts.getD xs[k].toNat tz).cols=cc at *;generalize widthN ts (xs.take k)=W0 at *;clear hs hx hq;go_wp2;go_round
   case rel=>exact⟨k+1,by omega,by go_num,by rw[HS.out]⟩
   case measure=>simp[intOf]; omega
  ·go_wp2;go_ret;have:k=xs.length:=by omega
   subst this;exact⟨ret_int (by rw[List.take_length]),rfl⟩
theorem clausesL_bad {ls:List ClauseV} {n:Int} {k:Nat} (hk:k<ls.length) (h:clauseB (ls.getD k lz).cs n=false):false=clausesB (ls.map ClauseV.cs) n:=
 (@clausesB_bad ⟨⟨none,0,[]⟩,none,0,ls,false,⟨none,0,[]⟩,⟨none,0,[]⟩,⟨none,0,[]⟩,⟨none,0,[]⟩⟩ n k hk h).symm
theorem clausesL_good {ls:List ClauseV} {n:Int} (h:∀ k,k<ls.length->clauseB (ls.getD k lz).cs n=true):true=clausesB (ls.map ClauseV.cs) n:=
 (@clausesB_good ⟨⟨none,0,[]⟩,none,0,ls,false,⟨none,0,[]⟩,⟨none,0,[]⟩,⟨none,0,[]⟩,⟨none,0,[]⟩⟩ n h).symm
theorem clausesQ_any (ao:Option Addr) (cap:Nat) (ls:List ClauseV) (n:Int) (w:World) (hx:ClausesAt w ao ls) :
  Calls Tryz.prog 60 #[.slice ao ls.length cap,.int .i64 n] w fun e w'=>e=.returned (.bool (clausesB (ls.map ClauseV.cs) n))/\Below w.heap.size w w':=by
 have hl:=hx.1;have HBD:Hid _:=@clausesL_bad ls n;have HGD:Hid _:=@clausesL_good ls n;generalize clausesB (ls.map ClauseV.cs) n=R at *;go_enter Tryz.func60,Tryz.ntmps60;go_wp2;go_loopw [11] (fun i wr=>∃ k:Nat,k<=ls.length/\i=.int .i64 k/\Hid (∀ j,j<k->clauseB (ls.getD j lz).cs n=true)/\Below w.heap.size w wr) (fun i _=>ls.length-(intOf i).toNat)
 case atStart=>exact⟨0,Nat.zero_le _,rfl,fun j hj=>absurd hj (by omega),Below.refl _ _⟩
 case round=>
  obtain⟨k,hk,rfl,HP,hb⟩:=hrel;by_cases hlt:k<ls.length
  ·obtain⟨b,off,rfl,hc⟩:=hx.2.1.get hlt;have hck:=cB hb (hc k hlt);have hcd:=hx.2.2 k hlt;have HBc:Hid (clauseB (ls.getD k lz).cs n=false->false=R):=fun h=>HBD.out hlt h
   generalize hge:ls.getD k lz=cl at *;have HGE:Hid (ls.getD k lz=cl):=hge;clear hge hc hx;obtain⟨ad,cp,cs⟩:=cl;unfold ClauseV.val at hck;simp only at hck hcd;have hcl2:=hcd.1;have hbs:=hb.size;by_cases hc0:cs.length=0
   ·have HF:Hid (false=R):=HBc.out (clauseB_none (by simp only; omega));go_wp2;go_ret;exact⟨ret_bool HF.out,hb.alloc hbs _⟩
   ·have hc0':((cs.length:Int)==0)=false:=by simpa using hc0
    have HC0:Hid (¬ cs.length=0):=hc0;clear hc0;go_wp2;go_loopw [22] (fun i wr2=>∃ m:Nat,m<=cs.length/\i=.int .i64 m/\Hid (∀ j,j<m->condB (cs.getD j cz) n=true)/\Below w.heap.size w wr2) (fun i _=>cs.length-(intOf i).toNat)
    case atStart=>exact⟨0,Nat.zero_le _,rfl,fun j hj=>absurd hj (by omega),hb.alloc hbs _⟩
    case round=>
     obtain⟨m,hm,rfl,HM,hb2⟩:=hrel;have hbs2:=hb2.size;clear hck hc0';by_cases hml:m<cs.length
     ·obtain⟨b2,off2,rfl,c0,c1,c2,c3,c4⟩:=hcd.2 m hml;have d0:=cB hb2 c0;have d1:=cB hb2 c1;have d2:=cB hb2 c2;have d3:=cB hb2 c3;have d4:=cB hb2 c4;clear c0 c1 c2 c3 c4;have hC:=fun x=>condFits_any (cs.getD m cz) n x
      unfold CondD.val at hC;generalize hgc:cs.getD m cz=cc at *;have HGC:Hid (cs.getD m cz=cc):=hgc;clear hgc
      cases hcb:condB cc n
      ·rw[hcb] at hC;have HF:Hid (false=R):=HBc.out (clauseB_bad hml (by rw[HGC.out]; exact hcb));go_wp2_with fail;refine (hC _).mono ?_;clear hC;rintro e w4 ⟨rfl,hb4⟩;go_wp2;go_ret;exact⟨ret_bool HF.out,bQ1 (hb2.alloc hbs2 _) hb4⟩
      ·rw[hcb] at hC;have HCB2:Hid (condB cc n=true):=hcb;clear hcb;go_wp2_with fail;refine (hC _).mono ?_;clear hC;rintro e w4 ⟨rfl,hb4⟩;go_wp2;go_roundw
       case rel=>
        refine⟨m+1,by omega,by go_num,fun j hj=>?_,bQ1 (hb2.alloc hbs2 _) hb4⟩;by_cases hjm:j=m
        ·subst hjm; rw[HGC.out]; exact HCB2.out
        ·exact HM.out j (by omega)
       case measure=>simp[intOf]; omega
     ·have HG:Hid (clauseB cs n=true):=clauseB_good (by have:=HC0.out; omega) (fun j hj=>HM.out j (by omega));go_wp2;go_roundw
      case rel=>
       refine⟨k+1,by omega,by go_num,fun j hj=>?_,hb2⟩;by_cases hjk:j=k
       ·subst hjk; rw[HGE.out]; exact HG.out
       ·exact HP.out j (by omega)
      case measure=>simp[intOf]; omega
  ·have HF:Hid (true=R):=HGD.out (fun j hj=>HP.out j (by omega));go_wp2;go_ret;exact⟨ret_bool HF.out,hb⟩
def fitsB (n:Int) (group:Bool) (keys sums sel:List Int):Bool:=
 if group then decide (sel.length=0)&&allB sums n&&allB keys n&&apartB keys else decide (0<sel.length)&&allB sel n&&decide (keys.length=0)&&decide (sums.length=0)
theorem outputFits_any (q:QueryV) (n:Int) (w:World) (hk:q.keys.At w) (hs:q.sums.At w) (he:q.sel.At w) (hkc:q.keys.xs.length<=q.keys.cap) :
  Calls Tryz.prog 61 #[.agg q.cells,.int .i64 n] w fun e w'=>e=.returned (.bool (fitsB n q.group q.keys.xs q.sums.xs q.sel.xs))/\Below w.heap.size w w':=by
 obtain⟨src,wad,wcap,wh,group,⟨kad,kcap,keys⟩,⟨uad,ucap,sums⟩,⟨ead,ecap,sel⟩,ord⟩:=q;unfold IntsV.At at hk hs he;simp only at hk hs he hkc;unfold QueryV.cells IntsV.val;simp only;have hkl:=hk.1;have hul:=hs.1;have hel:=he.1;have hC1:=fun x (h:Below w.heap.size w x)=>allBelow_any ead ecap sel n x (IntsAt.below h he)
 have hC2:=fun x (h:Below w.heap.size w x)=>allBelow_any uad ucap sums n x (IntsAt.below h hs)
 have hC3:=fun x (h:Below w.heap.size w x)=>allBelow_any kad kcap keys n x (IntsAt.below h hk)
 have hC4:=fun x (h:Below w.heap.size w x)=>allDifferent_any kad kcap keys x (IntsAt.below h hk) hkc
 clear hk hs he;have HE:Hid (fitsB n group keys sums sel=fitsB n group keys sums sel):=rfl;generalize hR:fitsB n group keys sums sel=R at *;clear HE;unfold fitsB at hR;generalize allB sel n=A1 at *;generalize allB sums n=A2 at *;generalize allB keys n=A3 at *;generalize apartB keys=A4 at *
 cases group
 ·simp only[Bool.false_eq_true,if_false] at hR;clear hC2 hC3 hC4;by_cases h0:0<sel.length
  ·rw[decide_eq_true h0,Bool.true_and] at hR
   cases A1
   ·have HF:Hid (false=R):=show false=R by rw[<- hR]; rfl
    clear hR;go_enter Tryz.func61,Tryz.ntmps61;go_wp2_with fail;refine (hC1 _ (bQ2 _ _)).mono ?_;clear hC1;rintro e w2 ⟨rfl,hb2⟩;go_wp2;go_ret;exact⟨ret_bool HF.out,bQ1 (bQ2 _ _) hb2⟩
   ·rw[Bool.true_and] at hR;by_cases h1:keys.length=0
    ·have h1':((keys.length:Int)==0)=true:=by simpa using h1
     have HF:Hid (((sums.length:Int)==0)=R):=show ((sums.length:Int)==0)=R by rw[<- hR,decide_eq_true h1,Bool.true_and,eq0_len]
     clear hR h1;go_enter Tryz.func61,Tryz.ntmps61;go_wp2_with fail;refine (hC1 _ (bQ2 _ _)).mono ?_;clear hC1;rintro e w2 ⟨rfl,hb2⟩;have hcell:=bcell hb2;simp at hcell;go_wp2;go_ret;exact⟨ret_bool HF.out,bQ1 (bQ2 _ _) hb2⟩
    ·have h1':((keys.length:Int)==0)=false:=by simpa using h1
     have HF:Hid (false=R):=show false=R by rw[<- hR,decide_eq_false h1]; rfl
     clear hR h1;go_enter Tryz.func61,Tryz.ntmps61;go_wp2_with fail;refine (hC1 _ (bQ2 _ _)).mono ?_;clear hC1;rintro e w2 ⟨rfl,hb2⟩;have hcell:=bcell hb2;simp at hcell;go_wp2;go_ret;exact⟨ret_bool HF.out,bQ1 (bQ2 _ _) hb2⟩
  ·have HF:Hid (false=R):=show false=R by rw[<- hR,decide_eq_false h0]; rfl
   clear hR;go_enter Tryz.func61,Tryz.ntmps61;go_wp2;go_ret;exact⟨ret_bool HF.out,bQ2 _ _⟩
 ·simp only[if_true] at hR;clear hC1;by_cases h0:0<sel.length
  ·have HF:Hid (false=R):=show false=R by rw[<- hR,decide_eq_false (by omega)]; rfl
   clear hR;go_enter Tryz.func61,Tryz.ntmps61;go_wp2;go_ret;exact⟨ret_bool HF.out,bQ2 _ _⟩
  ·rw[decide_eq_true (show sel.length=0 by omega),Bool.true_and] at hR
   cases A2
   ·have HF:Hid (false=R):=show false=R by rw[<- hR]; rfl
    clear hR;go_enter Tryz.func61,Tryz.ntmps61;go_wp2_with fail;refine (hC2 _ (bQ2 _ _)).mono ?_;clear hC2;rintro e w2 ⟨rfl,hb2⟩;go_wp2;go_ret;exact⟨ret_bool HF.out,bQ1 (bQ2 _ _) hb2⟩
   ·rw[Bool.true_and] at hR
    cases A3
    ·have HF:Hid (false=R):=show false=R by rw[<- hR]; rfl
     clear hR;go_enter Tryz.func61,Tryz.ntmps61;go_wp2_with fail;refine (hC2 _ (bQ2 _ _)).mono ?_;clear hC2;rintro e w2 ⟨rfl,hb2⟩;have hcell:=bcell hb2;simp at hcell;go_wp2_with fail;refine (hC3 _ (bQ1 (bQ2 _ _) hb2)).mono ?_;clear hC3;rintro e w3 ⟨rfl,hb3⟩;go_wp2;go_ret;exact⟨ret_bool HF.out,bQ1 (bQ1 (bQ2 _ _) hb2) hb3⟩
    ·have HF:Hid (A4=R):=show A4=R by rw[<- hR,Bool.true_and]
     clear hR;go_enter Tryz.func61,Tryz.ntmps61;go_wp2_with fail;refine (hC2 _ (bQ2 _ _)).mono ?_;clear hC2;rintro e w2 ⟨rfl,hb2⟩;have hcell:=bcell hb2;simp at hcell;go_wp2_with fail;refine (hC3 _ (bQ1 (bQ2 _ _) hb2)).mono ?_;clear hC3;rintro e w3 ⟨rfl,hb3⟩;have hz:w.heap.size<w2.heap.size:=by have:=hb2.size; simp at this; omega
     have hcell3:=bcell hb3;go_wp2_with fail;refine (hC4 _ (bQ1 (bQ1 (bQ2 _ _) hb2) hb3)).mono ?_;clear hC4;rintro e w4 ⟨rfl,rfl⟩;go_wp2;go_ret;exact⟨ret_bool HF.out,bQ1 (bQ1 (bQ2 _ _) hb2) hb3⟩
theorem restB_fits (n:Int) (group:Bool) (keys sums sel ord:List Int) :
  restB n group keys sums sel ord=(fitsB n group keys sums sel&&(allB ord (outN group keys sums sel)&&apartB ord)):=by
 unfold restB fitsB;generalize allB ord (outN group keys sums sel)=O;generalize apartB ord=P
 cases group
 ·by_cases hs:sel.length=0
  ·have:¬ 0<sel.length:=by omega
   simp[hs]
  ·have h1:decide (sel.length=0)=false:=decide_eq_false hs;have h2:decide (0<sel.length)=true:=decide_eq_true (by omega);rw[h1,h2];by_cases hk:keys.length=0
   ·by_cases hu:sums.length=0
    ·have hk':keys=[]:=List.eq_nil_of_length_eq_zero hk;have hu':sums=[]:=List.eq_nil_of_length_eq_zero hu;subst hk' hu';have ha:apartB []=true:=by decide
     rw[ha]
     cases allB sel n <;> cases O <;> cases P <;> rfl
    ·rw[decide_eq_false hu,decide_eq_false (show ¬ keys.length+sums.length=0 by omega)];simp
   ·rw[decide_eq_false hk,decide_eq_false (show ¬ keys.length+sums.length=0 by omega)];simp
 ·by_cases hs:sel.length=0
  ·have hs':sel=[]:=List.eq_nil_of_length_eq_zero hs;subst hs';have h1:allB [] n=true:=rfl;rw[h1]
   cases allB sums n <;> cases allB keys n <;> cases apartB keys <;> cases O <;> cases P <;> rfl
  ·rw[decide_eq_false hs];simp
def queryB (ts:List TableD) (src:List Int) (wh:List (List CondD)) (group:Bool) (keys sums sel ord:List Int):Bool:=
 decide (0<src.length)&&(allB src ts.length&&(clausesB wh (widthN ts src)&&(fitsB (widthN ts src) group keys sums sel&&(allB ord (outN group keys sums sel)&&apartB ord))))
theorem check_query {ts:List TableD} {src:List Int} {wh:List (List CondD)} {group:Bool} {keys sums sel ord:List Int} (hc:catB ts=true) (hf:fullB src wh keys sums sel ord=false) :
  checkN ts src wh group keys sums sel ord=if queryB ts src wh group keys sums sel ord then 0 else 3:=by
 unfold checkN queryB;rw[if_neg (by simp[hc]),if_neg (by simp[hf]),restB_fits];generalize (fitsB (widthN ts src) group keys sums sel&&(allB ord (outN group keys sums sel)&&apartB ord))=X;by_cases h0:0<src.length
 ·rw[decide_eq_true h0]
  cases allB src ts.length <;> cases clausesB wh (widthN ts src) <;> cases X <;> simp[h0]
 ·rw[decide_eq_false h0];simp[h0]
theorem isQuery_any (ao:Option Addr) (cap:Nat) (ts:List TableD) (q:QueryV) (w:World) (hx:TablesAt w ao ts) (hq:q.At w) (hc:catB ts=true)
  (hf:fullB q.src.xs q.whs q.keys.xs q.sums.xs q.sel.xs q.ord.xs=false) (hkc:q.keys.xs.length<=q.keys.cap) (hoc:q.ord.xs.length<=q.ord.cap) :
  Calls Tryz.prog 35 #[.slice ao ts.length cap,.agg q.cells] w fun e w'=>e=.returned (.bool (queryB ts q.src.xs q.whs q.group q.keys.xs q.sums.xs q.sel.xs q.ord.xs))/\Below w.heap.size w w':=by
 have hlen:¬ (5<q.src.xs.length∨8<q.wh.length∨8<q.sel.xs.length∨4<q.keys.xs.length∨4<q.sums.xs.length∨4<q.ord.xs.length):=by
  intro h;rw[QueryV.full_eq,decide_eq_true h,Bool.true_or] at hf
  cases hf
 have hOW:=fun x=>outWidth_any q x (by omega) (by omega)
 have hOF:=fun n x (h:Below w.heap.size w x)=>outputFits_any q n x (IntsAt.below h hq.keys) (IntsAt.below h hq.sums) (IntsAt.below h hq.sel) hkc
 unfold queryB;obtain⟨src,wad,wcap,wh,group,keys,sums,sel,ord⟩:=q;have hsrc:IntsAt w src.ad src.xs:=hq.src;have hord:IntsAt w ord.ad ord.xs:=hq.ord;have hwh:ClausesAt w wad wh:=hq.wh;have hwhs:(QueryV.mk src wad wcap wh group keys sums sel ord).whs=wh.map ClauseV.cs:=rfl;simp only[hwhs] at *;clear hwhs hq hf;unfold QueryV.cells IntsV.val at *;simp only at *;have h1:src.xs.length<=5:=by omega
 have hcl1:=fun x (h:Below w.heap.size w x)=>allBelow_any src.ad src.cap src.xs ts.length x (hsrc.below h)
 have hcl2:=fun n x (h:Below w.heap.size w x)=>clausesQ_any wad wcap wh n x (hwh.below h)
 have hcl3:=fun x (h:Below w.heap.size w x)=>allBelow_any ord.ad ord.cap ord.xs (outN group keys.xs sums.xs sel.xs) x (hord.below h)
 have hcl4:=fun x (h:Below w.heap.size w x)=>allDifferent_any ord.ad ord.cap ord.xs x (hord.below h) hoc
 generalize hR:(decide (0<src.xs.length)&&(allB src.xs ts.length&&(clausesB (wh.map ClauseV.cs) (widthN ts src.xs)&&(fitsB (widthN ts src.xs) group keys.xs sums.xs sel.xs&&(allB ord.xs (outN group keys.xs sums.xs sel.xs)&&apartB ord.xs)))))=R;by_cases h0:0<src.xs.length
 ·rw[decide_eq_true h0,Bool.true_and] at hR;have h0':((src.xs.length:Int)==0)=false:=by rw[beq_eq_false_iff_ne]; omega
  cases ha:allB src.xs ts.length
  ·rw[ha] at hcl1 hR;have HR:Hid (false=R):=hR;clear hR;go_enter Tryz.func35,Tryz.ntmps35;go_wp2_with fail;refine (hcl1 _ (bQ2 _ _)).mono ?_;rintro e w2 ⟨rfl,hb2⟩;go_wp2;go_ret;exact⟨ret_bool HR.out,bQ1 (bQ2 _ _) hb2⟩
  ·have hcc:=fun x (h:Below w.heap.size w x)=>countColumns_any ao cap ts src.ad src.cap src.xs x (hx.below h) hc (hsrc.below h) h1 ha
   rw[ha] at hcl1 hR;clear ha hc;rw[Bool.true_and] at hR;have HR:Hid _:=hR;clear hR;generalize widthN ts src.xs=N at *;have hcl2:=hcl2 N;have hOF:=hOF N;generalize clausesB (wh.map ClauseV.cs) N=CB at *;generalize fitsB N group keys.xs sums.xs sel.xs=FB at *;clear hx hsrc hord hwh hkc hoc;go_enter Tryz.func35,Tryz.ntmps35;go_wp2_with fail;refine (hcl1 _ (bQ2 _ _)).mono ?_;clear hcl1;rintro e w2 ⟨rfl,hb2⟩;have hz:w.heap.size<w2.heap.size:=by have:=hb2.size; simp at this; omega
   have hcell:=bcell hb2;simp at hcell;have k2:=bQ1 (bQ2 _ _) hb2;go_wp2_with fail;refine (hcc _ k2).mono ?_;clear hcc;rintro e w3 ⟨rfl,rfl⟩;go_wp2_with fail;refine (hcl2 _ k2).mono ?_;clear hcl2;rintro e w4 ⟨rfl,hb4⟩;have k4:=bQ1 k2 hb4;have f0:w4.cell? (aD w.heap.size 0)=some (.slice src.ad src.xs.length src.cap):=cB hb4 (by rw[hcell _ _ (by omega)]; simp);have f1:w4.cell? (aD w.heap.size 1)=some (.slice wad wh.length wcap):=cB hb4 (by rw[hcell _ _ (by omega)]; simp);have f2:w4.cell? (aD w.heap.size 2)=some (.bool group):=cB hb4 (by rw[hcell _ _ (by omega)]; simp);have f3:w4.cell? (aD w.heap.size 3)=some (.slice keys.ad keys.xs.length keys.cap):=cB hb4 (by rw[hcell _ _ (by omega)]; simp);have f4:w4.cell? (aD w.heap.size 4)=some (.slice sums.ad sums.xs.length sums.cap):=cB hb4 (by rw[hcell _ _ (by omega)]; simp);have f5:w4.cell? (aD w.heap.size 5)=some (.slice sel.ad sel.xs.length sel.cap):=cB hb4 (by rw[hcell _ _ (by omega)]; simp);have f6:w4.cell? (aD w.heap.size 6)=some (.slice ord.ad ord.xs.length ord.cap):=cB hb4 (by rw[hcell _ _ (by omega)]; simp);clear hcell hb4 k2 hb2
   cases CB
   ·go_wp2;go_ret;exact⟨ret_bool HR.out,k4⟩
   ·go_wp2_with fail;refine (hOF _ k4).mono ?_;clear hOF;rintro e w5 ⟨rfl,hb5⟩;have k5:=bQ1 k4 hb5;have g0:=cB hb5 f0;have g1:=cB hb5 f1;have g2:=cB hb5 f2;have g3:=cB hb5 f3;have g4:=cB hb5 f4;have g5:=cB hb5 f5;have g6:=cB hb5 f6;clear f0 f1 f2 f3 f4 f5 f6 hb5 k4
    cases FB
    ·go_wp2;go_ret;exact⟨ret_bool HR.out,k5⟩
    ·go_wp2_with fail;generalize outN group keys.xs sums.xs sel.xs=O at *;generalize allB ord.xs O=AO at *;generalize apartB ord.xs=PO at *;refine wp_region_below (by kernel_rfl) (by kernel_rfl) ?_;go_big_quiet_want;refine⟨.pointer (some (aD w.heap.size 6)),fun x hx=>?_,?_⟩
     ·go_simp
     simp only[pA,sB,sC];go_big_quiet_on;go_big_quiet_want;refine⟨.slice ord.ad ord.xs.length ord.cap,fun x hx=>?_,?_⟩
     ·have e6:=cB hx g6;go_simp
     simp only[pA,sB,sC];go_big_quiet_on;go_big_quiet_want;refine⟨.agg #[.slice src.ad src.xs.length src.cap,.slice wad wh.length wcap,.bool group,.slice keys.ad keys.xs.length keys.cap,.slice sums.ad sums.xs.length sums.cap,.slice sel.ad sel.xs.length sel.cap,.slice ord.ad ord.xs.length ord.cap],fun x hx=>?_,?_⟩
     ·have e0:=cB hx g0;have e1:=cB hx g1;have e2:=cB hx g2;have e3:=cB hx g3;have e4:=cB hx g4;have e5:=cB hx g5;have e6:=cB hx g6;go_simp
     simp only[pA,sB,sC];go_big_quiet_on;go_big_quiet_want;refine⟨.int .i64 O,fun x hx=>?_,?_⟩
     ·have hC:=Calls.within hx (hOW x);go_simp
     simp only[pA,sB,sC];go_big_quiet_on;go_big_quiet_want;refine⟨.bool AO,fun x hx=>?_,?_⟩
     ·have hC:=Calls.within hx (hcl3 x (bQ1 k5 hx));go_simp
     simp only[pA,sB,sC];go_big_quiet_on;go_big_quiet_want;refine⟨.bool AO,fun x hx=>?_,?_⟩
     ·go_simp
     simp only[pA,sB,sC];go_big_quiet_on
     cases AO
     ·go_big_quiet_skip;go_big_quiet_skip;go_big_quiet_skip;go_big_quiet_want;refine⟨.bool false,fun x hx=>?_,?_⟩
      ·go_simp
      simp only[pA,sB,sC];go_big_quiet_on;go_big_quiet_want;refine⟨.bool false,fun x hx=>?_,?_⟩
      ·go_simp
      simp only[pA,sB,sC];go_big_quiet_on;refine wpQuiet_nil ?_;intro x hx;go_wp2;go_ret;exact⟨ret_bool HR.out,bQ1 k5 hx⟩
     ·go_big_quiet_want;refine⟨.pointer (some (aD w.heap.size 6)),fun x hx=>?_,?_⟩
      ·go_simp
      simp only[pA,sB,sC];go_big_quiet_on;go_big_quiet_want;refine⟨.slice ord.ad ord.xs.length ord.cap,fun x hx=>?_,?_⟩
      ·have e6:=cB hx g6;go_simp
      simp only[pA,sB,sC];go_big_quiet_on;go_big_quiet_want;refine⟨.bool PO,fun x hx=>?_,?_⟩
      ·have hC:=Calls.within_same hx (hcl4 x (bQ1 k5 hx));go_simp
      simp only[pA,sB,sC];go_big_quiet_on;go_big_quiet_want;refine⟨.bool PO,fun x hx=>?_,?_⟩
      ·go_simp
      simp only[pA,sB,sC];go_big_quiet_on;go_big_quiet_want;refine⟨.bool PO,fun x hx=>?_,?_⟩
      ·go_simp
      simp only[pA,sB,sC];go_big_quiet_on;refine wpQuiet_nil ?_;intro x hx;go_wp2;go_ret;exact⟨ret_bool HR.out,bQ1 k5 hx⟩
 ·have h0':((src.xs.length:Int)==0)=true:=by rw[beq_iff_eq]; omega
  rw[decide_eq_false h0,Bool.false_and] at hR;have HR:Hid (false=R):=hR;clear hR;clear hOW hOF hcl1 hcl2 hcl3 hcl4;go_enter Tryz.func35,Tryz.ntmps35;go_wp2;go_ret;exact⟨ret_bool HR.out,bQ2 _ _⟩
theorem check_of_cat {q:QueryV} {ts:List TableD} (h:catB ts=false):(1:Int)=q.check ts:=QueryV.check_cat h
theorem check_of_query {q:QueryV} {ts:List TableD} (hc:catB ts=true) (hf:fullB q.src.xs q.whs q.keys.xs q.sums.xs q.sel.xs q.ord.xs=false) :
  q.check ts=if queryB ts q.src.xs q.whs q.group q.keys.xs q.sums.xs q.sel.xs q.ord.xs then 0 else 3:=check_query hc hf
theorem checkQ_any (ao:Option Addr) (cap:Nat) (ts:List TableD) (q:QueryV) (w:World) (hx:TablesAt w ao ts) (hq:q.At w) (hkc:q.keys.xs.length<=q.keys.cap) (hoc:q.ord.xs.length<=q.ord.cap) :
  Calls Tryz.prog 25 #[.slice ao ts.length cap,.agg q.cells] w fun e w'=>e=.returned (.int .i64 (q.check ts))/\Below w.heap.size w w':=by
 have hC1:=fun x (h:Below w.heap.size w x)=>isCatalogP_any ao cap ts x (hx.below h)
 have hC2:=fun x (h:Below w.heap.size w x)=>isFull_any q x (hq.wh.below h)
 have hC3:=fun (hc:catB ts=true) (hf:fullB q.src.xs q.whs q.keys.xs q.sums.xs q.sel.xs q.ord.xs=false) x (h:Below w.heap.size w x)=>isQuery_any ao cap ts q x (hx.below h) (hq.below h) hc hf hkc hoc
 have e1:=@check_of_cat q ts;have e2:=@QueryV.check_full q ts;have e3:=@check_of_query q ts;generalize q.check ts=R at *;generalize fullB q.src.xs q.whs q.keys.xs q.sums.xs q.sel.xs q.ord.xs=FB at *;generalize queryB ts q.src.xs q.whs q.group q.keys.xs q.sums.xs q.sel.xs q.ord.xs=QB at *;generalize catB ts=CB at *;obtain⟨src,wad,wcap,wh,group,keys,sums,sel,ord⟩:=q;clear hx hq hkc hoc;unfold QueryV.cells IntsV.val at *;simp only at *
 cases CB
 ·have HF:Hid ((1:Int)=R):=e1 rfl;clear hC2 hC3 e1 e2 e3;go_enter Tryz.func25,Tryz.ntmps25;go_wp2_with fail;refine (hC1 _ (bQ2 _ _)).mono ?_;clear hC1;rintro e w2 ⟨rfl,hb2⟩;go_wp2;go_ret;exact⟨ret_int HF.out,bQ1 (bQ2 _ _) hb2⟩
 ·cases FB
  ·have HC3:Hid _:=hC3 rfl rfl;clear hC3;have HF:Hid (R=if QB=true then 0 else 3):=e3 rfl rfl;clear e1 e2 e3;go_enter Tryz.func25,Tryz.ntmps25;go_wp2_with fail;refine (hC1 _ (bQ2 _ _)).mono ?_;clear hC1;rintro e w2 ⟨rfl,hb2⟩;have hz:w.heap.size<w2.heap.size:=by have:=hb2.size; simp at this; omega
   have hcell:=bcell hb2;simp at hcell;have k2:=bQ1 (bQ2 _ _) hb2;go_wp2_with fail;refine (hC2 _ k2).mono ?_;clear hC2;rintro e w3 ⟨rfl,hb3⟩;have hcell3:=bcell hb3;have k3:=bQ1 k2 hb3;go_wp2_with fail;refine (HC3.out _ k3).mono ?_;clear HC3;rintro e w4 ⟨rfl,hb4⟩
   cases QB
   ·have HF':Hid ((3:Int)=R):=HF.out.symm;go_wp2;go_ret;exact⟨ret_int HF'.out,bQ1 k3 hb4⟩
   ·have HF':Hid ((0:Int)=R):=HF.out.symm;go_wp2;go_ret;exact⟨ret_int HF'.out,bQ1 k3 hb4⟩
  ·have HF:Hid ((2:Int)=R):=e2 rfl rfl;clear hC3 e1 e2 e3;go_enter Tryz.func25,Tryz.ntmps25;go_wp2_with fail;refine (hC1 _ (bQ2 _ _)).mono ?_;clear hC1;rintro e w2 ⟨rfl,hb2⟩;have hz:w.heap.size<w2.heap.size:=by have:=hb2.size; simp at this; omega
   have hcell:=bcell hb2;simp at hcell;have k2:=bQ1 (bQ2 _ _) hb2;go_wp2_with fail;refine (hC2 _ k2).mono ?_;clear hC2;rintro e w3 ⟨rfl,hb3⟩;go_wp2;go_ret;exact⟨ret_int HF.out,bQ1 k2 hb3⟩
open Go.RowKit Go.Scout Go.Shelf
structure PlS where
 W:World
 f:FactsV
 q:QueryV
 pb:Nat
 sb:Nat
structure Began (ts:List TableD) (N:Nat->Prop) (q:QueryV) (room:Nat) (w:World) (P:PlS) (M:Nat->Prop) (w':World):Prop where
 env:Env P.f ts P.q P.W
 same:QSame q P.q
 se:∃ L,SeAt P.W P.f ts P.q (fun b=>(N b∨b=P.pb)∨M b) M w' P.sb L (beginN rkN ts P.q room)
 cell:w'.cell? (aD P.pb 9)=some (.pointer (some (aD P.sb 0)))
 new:∀ b,M b->w.heap.size<=b
 pb:w.heap.size<=P.pb
 npb:¬ M P.pb
 below:Below w.heap.size w w'
theorem Began.elder {ts:List TableD} {N:Nat->Prop} {q:QueryV} {room:Nat} {w x:World} {P:PlS} {M:Nat->Prop} {w':World} (h:Began ts N q room x P M w') (hb:Below w.heap.size w x):Began ts N q room w P M w':=
 ⟨h.env,h.same,h.se,h.cell,fun b hm=>Nat.le_trans hb.size (h.new b hm),Nat.le_trans hb.size h.pb,h.npb,hb.trans (h.below.mono hb.size)⟩
def PlK (w:World) (pb:Nat) (T:TypeId) (c:List Value) (x:World):Prop:=Kept (fun b=>b≠pb) w x/\∃ u,GB x pb T (c++[u]).toArray
theorem PlK.below {w:World} {pb:Nat} {T:TypeId} {c:List Value} {x y:World} (h:PlK w pb T c x) (hb:Below x.heap.size x y):PlK w pb T c y:=by
 obtain⟨hk,u,hg⟩:=h;exact⟨hk.trans (Kept.of_below hb (fun _ h _=>h)),u,hg.keep (Kept.of_below (s:=fun b=>b<x.heap.size) hb (fun _ h _=>h)) hg.lt⟩
theorem PlK.set {w:World} {pb:Nat} {T:TypeId} {c:List Value} {x:World} (h:PlK w pb T c x) (v:Value):PlK w pb T c (x.setCell (aD pb c.length) v):=by
 obtain⟨hk,u,hg⟩:=h;refine⟨hk.trans (Kept.setCell _ _ _ (fun h=>h rfl)),v,?_⟩;have:=hg.set c.length v;rw[List.setIfInBounds_toArray,List.set_append_right _ _ (Nat.le_refl _),Nat.sub_self] at this;exact this
theorem catB_lenS {ts:List TableD} (h:catB ts=true):ts.length<=1000:=by
 unfold catB at h;simp only[Bool.and_eq_true,decide_eq_true_eq] at h;omega
theorem start_any (ao:Option Addr) (cap:Nat) (ts:List TableD) (q:QueryV) (room:Nat) (N:Nat->Prop) (w:World) (hx:TablesAt w ao ts) (hn:ao=none->cap=0) (hq:q.At w) (hkc:q.keys.xs.length<=q.keys.cap) (hoc:q.ord.xs.length<=q.ord.cap) (ht:QTidy q) (hs:ShapesAt w 0) (hchk:q.check ts=0) (h1:1<=room) (h2:room<=1000) (hN:∀ b,N b->b<w.heap.size) (h0:¬ N 0) (hw0:0<w.heap.size) :
  Calls Tryz.prog 16 #[.slice ao ts.length cap,.agg q.cells,.int .i64 (room:Int)] w fun e w'=>∃ P M,e=.returned (.tuple #[.pointer (some (aD P.pb 0)),.int .i64 0])/\Began ts N q room w P M w':=by
 have hlt:ts.length<=1000:=catB_lenS (chk_of hchk).1.cat;obtain⟨v0,v1,v2,v3,v4,v5,v6,hQC⟩:∃ v0 v1 v2 v3 v4 v5 v6,q.cells=#[v0,v1,v2,v3,v4,v5,v6]:=⟨_,_,_,_,_,_,_,rfl⟩
 obtain⟨w1,hw1,hb1,hg1⟩:=newB w #[v0,v1,v2,v3,v4,v5,v6] 26;have hCH:=checkQ_any ao cap ts q w1 (hx.below hb1) (hq.below hb1) hkc hoc;rw[hchk] at hCH;have HCT:Hid (∀ x,Below w.heap.size w x->Calls Tryz.prog 26 #[.slice ao ts.length cap] x fun e w'=>∃ ca cc,e=.returned (.slice ca ts.length cc)/\TablesAt w' ca ts/\Below x.heap.size x w'):=fun x hb=>by
  refine (cloneTables_any ao cap ts x (hx.below hb) hn hlt).mono ?_;rintro e w' ⟨v,rfl,ho,hb'⟩;obtain⟨ad,cp,rfl,hta⟩:=own_tables ho hlt;exact⟨ad,cp,rfl,hta,hb'⟩
 have HCQ:Hid (∀ x,Below w.heap.size w x->Calls Tryz.prog 27 #[.agg q.cells] x fun e w'=>∃ p:QueryV,e=.returned (.agg p.cells)/\p.At w'/\QSame q p/\p.New x.heap.size/\(p.keys.ad=none->p.keys.cap=0)/\p.keys.xs.length<=p.keys.cap/\Below x.heap.size x w'):=fun x hb=>copied_any q x (hq.below hb) ht
 rw[hQC] at hCH HCQ ⊢;have HSH:Hid (ShapesAt w 0):=hs;have HCK:Hid (q.check ts=0):=hchk;have HN:Hid ((∀ b,N b->b<w.heap.size)/\¬ N 0/\0<w.heap.size):=⟨hN,h0,hw0⟩
 have HR:Hid (1<=room/\room<=1000):=⟨h1,h2⟩
 have HB1:Hid (Below w.heap.size w w1):=hb1;have HG1:Hid (GB w1 w.heap.size 26 #[v0,v1,v2,v3,v4,v5,v6]):=hg1;have r1:¬ ((room:Int)<1):=by omega
 have r2:¬ ((room:Int) > 1000):=by omega
 have r3:¬ ((1000:Int)<(room:Int)):=by omega
 have a0:w1.cell? (aD w.heap.size 0)=some v0:=hg1.cell 0;have a1:w1.cell? (aD w.heap.size 1)=some v1:=hg1.cell 1;have a2:w1.cell? (aD w.heap.size 2)=some v2:=hg1.cell 2;have a3:w1.cell? (aD w.heap.size 3)=some v3:=hg1.cell 3;have a4:w1.cell? (aD w.heap.size 4)=some v4:=hg1.cell 4;have a5:w1.cell? (aD w.heap.size 5)=some v5:=hg1.cell 5;have a6:w1.cell? (aD w.heap.size 6)=some v6:=hg1.cell 6;clear hx hn hq hkc hoc ht hs hchk h1 h2 hN h0 hw0 hlt hQC hb1 hg1;go_enter Tryz.func16,Tryz.ntmps16;go_wp2_with fail;refine hCH.mono ?_;rintro e w2 ⟨rfl,hb2⟩;clear hCH hw1;have d0:=cB hb2 a0;have d1:=cB hb2 a1;have d2:=cB hb2 a2;have d3:=cB hb2 a3;have d4:=cB hb2 a4;have d5:=cB hb2 a5;have d6:=cB hb2 a6;have HB2:Hid (Below w.heap.size w w2):=bQ1 HB1.out hb2;clear hb2 a0 a1 a2 a3 a4 a5 a6;go_wp2_with fail;have hB0:Below w2.heap.size w2 w2.drew:=(Below.refl _ _).drew;refine wp_region_held_drew (S:=fun x=>Below w2.heap.size w2 x) (by kernel_rfl) ((Below.refl _ _).drew) (fun hS=>?_);refine wT 0 (.slice ao ts.length cap) hS (fun x hx=>?_) ?_
 ·go_simp
 refine wT 2 (.agg #[v0,v1,v2,v3,v4,v5,v6]) hS (fun x hx=>?_) ?_
 ·have e0:=cB hx d0;have e1:=cB hx d1;have e2:=cB hx d2;have e3:=cB hx d3;have e4:=cB hx d4;have e5:=cB hx d5;have e6:=cB hx d6;go_simp
 refine wT 4 (.int .i64 (room:Int)) hS (fun x hx=>?_) ?_
 ·go_simp
 refine wR 1 fun K hK=>?_
 go_simp;refine Calls.mono (HCT.out _ (bQ1 HB2.out hB0)) ?_;rintro e s1 ⟨ca,cc,rfl,hta,hb⟩;have hBs1:=bQ1 hB0 hb;have HTA:Hid (TablesAt s1 ca ts):=hta;clear hta;refine hK.out _ _ (bQ1 hS hb) (fun hS=>?_);clear hK K;refine wR 3 fun K hK=>?_
 go_simp;refine Calls.mono (HCQ.out _ (bQ1 HB2.out hBs1)) ?_;rintro e s2 ⟨p,rfl,hpa,hsm,hnew,hkn,hkc,hb2⟩;have hBs2:=bQ1 hBs1 hb2;have HTA2:Hid (TablesAt s2 ca ts):=HTA.out.below hb2;have HP:Hid (p.At s2/\QSame q p/\p.New s1.heap.size/\(p.keys.ad=none->p.keys.cap=0)/\p.keys.xs.length<=p.keys.cap):=⟨hpa,hsm,hnew,hkn,hkc⟩
 clear hpa hsm hnew hkn hkc HTA;obtain⟨p0,p1,p2,p3,p4,p5,p6,hPC⟩:∃ p0 p1 p2 p3 p4 p5 p6,p.cells=#[p0,p1,p2,p3,p4,p5,p6]:=⟨_,_,_,_,_,_,_,rfl⟩
 rw[hPC];refine hK.out _ _ (bQ1 hS hb2) (fun hS=>?_);clear hK K;refine wT 5 (.agg #[.slice ca ts.length cc,p0,p1,p2,p3,p4,p5,p6,.int .i64 (room:Int),.pointer none]) hS (fun x hx=>?_) ?_
 ·go_simp
 refine wR 6 fun K hK=>?_
 go_simp;refine hK.out _ _ (hS.trans (bQ2 _ _ |>.mono hS.size)) (fun hS=>?_);clear hK K;refine wT 7 (.pointer (some (aD s2.heap.size 0))) hS (fun x hx=>?_) ?_
 ·go_simp
 refine wpAnyH_done (by kernel_rfl) ?_ _
 try simp only[Act.put,List.getElem_toArray,List.getElem_cons_succ,List.getElem_cons_zero,List.setIfInBounds_toArray,List.set_cons_succ,List.set_cons_zero]
 obtain⟨w3,hw3,hb3,hg3⟩:=newB s2 #[.slice ca ts.length cc,p0,p1,p2,p3,p4,p5,p6,.int .i64 (room:Int),.pointer none] 58;have HB3:Hid (Below s2.heap.size s2 w3):=hb3;have HBW:Hid (Below w.heap.size w s2):=bQ1 HB2.out hBs2;have HS1:Hid (w.heap.size<=s1.heap.size):=(bQ1 HB2.out hBs1).size;have HLT:Hid (s2.heap.size<w3.heap.size):=hg3.lt;have HFO:Hid (∀ x,Below s2.heap.size s2 x->Calls Tryz.prog 29 #[.slice ca ts.length cc,.agg p.cells] x fun e w'=>∃ f:FactsV,e=.returned (.agg (f.cells ts p))/\f.At ts p w'/\f.New x.heap.size/\Below x.heap.size x w'):=fun x hb=>factsOf_any ca cc ts p x (HTA2.out.below hb) (HP.out.1.below hb) (chk_of (ts:=ts) (q:=p) (by rw[HP.out.2.1.check ts]; exact HCK.out)).1.ok
 rw[hPC] at HFO;obtain⟨pb,hpb⟩:∃ n,n=s2.heap.size:=⟨_,rfl⟩
 clear hS hBs1 hBs2 hB0 hb hb2 hb3 d0 d1 d2 d3 d4 d5 d6;go_upto_region 7 with fail;rw[hw3];rw[<- hpb];rw[<- hpb] at hg3 HLT;have HPB:Hid (pb=s2.heap.size):=hpb;clear hpb;have hB3:Below w3.heap.size w3 w3.drew:=(Below.refl _ _).drew;refine wp_region_held_drew (S:=PlK w3 pb 58 [.slice ca ts.length cc,p0,p1,p2,p3,p4,p5,p6,.int .i64 (room:Int)]) (by kernel_rfl) ⟨Kept.of_below hB3 (fun _ h _=>h),.pointer none,hg3⟩ (fun hS=>?_);refine wT 0 (.pointer (some (aD pb 0))) hS (fun x hx=>?_) ?_
 ·go_simp
 refine wT 1 (.pointer (some (aD pb 0))) hS (fun x hx=>?_) ?_
 ·go_simp
 refine wT 2 (.pointer (some (aD pb 0))) hS (fun x hx=>?_) ?_
 ·go_simp
 refine wT 3 (.pointer (some (aD pb 0))) hS (fun x hx=>?_) ?_
 ·go_simp
 refine wT 4 (.slice ca ts.length cc) hS (fun x hx=>?_) ?_
 ·obtain⟨_,u,hg⟩:=hx;have e0:x.cell? (aD pb 0)=some (.slice ca ts.length cc):=hg.cell 0;go_simp
 refine wT 5 (.pointer (some (aD pb 0))) hS (fun x hx=>?_) ?_
 ·go_simp
 refine wT 6 (.pointer (some (aD pb 0))) hS (fun x hx=>?_) ?_
 ·go_simp
 refine wT 7 (.pointer (some (aD pb 1))) hS (fun x hx=>?_) ?_
 ·go_simp
 refine wT 8 (.agg #[p0,p1,p2,p3,p4,p5,p6]) hS (fun x hx=>?_) ?_
 ·obtain⟨_,u,hg⟩:=hx;have e0:x.cell? (aD pb 1)=some p0:=hg.cell 1;have e1:x.cell? (aD pb 2)=some p1:=hg.cell 2;have e2:x.cell? (aD pb 3)=some p2:=hg.cell 3;have e3:x.cell? (aD pb 4)=some p3:=hg.cell 4;have e4:x.cell? (aD pb 5)=some p4:=hg.cell 5;have e5:x.cell? (aD pb 6)=some p5:=hg.cell 6;have e6:x.cell? (aD pb 7)=some p6:=hg.cell 7;go_simp
 refine wT 10 (.int .i64 (room:Int)) hS (fun x hx=>?_) ?_
 ·go_simp
 refine wR 9 fun K hK=>?_
 go_simp;refine Calls.mono (HFO.out _ (bQ1 HB3.out hB3)) ?_;rintro e w4 ⟨f,rfl,hf,hfn,hb4⟩;have hB4:=bQ1 hB3 hb4;have hB24:Below s2.heap.size s2 w4:=bQ1 HB3.out hB4;have hl4:pb<w4.heap.size:=Nat.lt_of_lt_of_le HLT.out hB4.size;have hwl:w.heap.size<=s2.heap.size:=HBW.out.size;have hpb:=HPB.out;have hE0:Env f ts p w4:=env_of (by rw[HP.out.2.1.check ts]; exact HCK.out) hf (ShapesAt.below (bQ1 HBW.out hB24) HSH.out) HP.out.2.2.2.2 HP.out.2.2.2.1;obtain⟨W0,HKL⟩:=kill_some (fun b=>N b∨b=pb) w4;have hE:Env f ts p W0:=Env.kill HKL hE0 (W':=s2) (n:=s1.heap.size) (m:=w3.drew.heap.size) (fun h=>by
  have g1:=HN.out.2.2;rcases h with h | h
  ·exact HN.out.2.1 h
  ·omega) (fun b h=>by
  show b<w3.heap.size
  have g1:=HLT.out;rcases h with h | h
  ·have:=HN.out.1 b h;omega
  ·omega) hfn (fun b h=>by
  rcases h with h | h
  ·have g2:=HN.out.1 b h;have g3:=HS1.out;exact .inl (by omega)
  ·exact .inr (by omega)) hB24 HP.out.1 HP.out.2.2.1
 have hz:Fz (fun b=>¬ (fun b=>N b∨b=pb) b) W0 w4:=Fz.kill HKL (Below.refl _ _) (fun b h=>by
  rcases h with h | h
  ·have:=HN.out.1 b h;have:=hB24.size;omega
  ·omega)
 have HBE:=begin_any hE hz room HR.out.1 HR.out.2;have HE:Hid (Env f ts p W0):=hE;have HB4:Hid (Below s2.heap.size s2 w4/\pb<w4.heap.size):=⟨hB24,hl4⟩
 have hg4:GB w4 pb 58 #[.slice ca ts.length cc,p0,p1,p2,p3,p4,p5,p6,.int .i64 (room:Int),.pointer none]:=hg3.keep (Kept.of_below (s:=fun b=>b<w3.heap.size) hB4 (fun _ h _=>h)) HLT.out;clear hE0 hE hz hf hfn hpb hwl hl4 HKL;refine hK.out _ _ (hS.below hb4) (fun hS=>?_);clear hK K;refine wR 11 fun K hK=>?_
 go_simp;refine Calls.mono (HBE) ?_;rintro e w5 ⟨sb,L,M,rfl,hse,hmn,hb5⟩;have HSE:Hid _:=And.intro hse (And.intro hmn hb5);have hg5:GB w5 pb 58 #[.slice ca ts.length cc,p0,p1,p2,p3,p4,p5,p6,.int .i64 (room:Int),.pointer none]:=hg4.keep (Kept.of_below (s:=fun b=>b<w4.heap.size) hb5 (fun _ h _=>h)) HB4.out.2;clear hse hmn HBE;refine hK.out _ _ (hS.below hb5) (fun hS=>?_);clear hK K;refine wT 12 (.pointer (some (aD pb 0))) hS (fun x hx=>?_) ?_
 ·go_simp
 refine wT 13 (.pointer (some (aD pb 9))) hS (fun x hx=>?_) ?_
 ·go_simp
 have c9:w5.cell? (aD pb 9)=some (.pointer none):=hg5.cell 9;have f9:w5.frozen? (aD pb 9)=false:=hg5.frozen 9;refine wR 14 fun K hK=>?_
 go_simp;refine hK.out _ _ (hS.set _) (fun hS=>?_);clear hK K;refine wpAnyH_done (by kernel_rfl) ?_ _
 try simp only[Act.put,List.getElem_toArray,List.getElem_cons_succ,List.getElem_cons_zero,List.setIfInBounds_toArray,List.set_cons_succ,List.set_cons_zero]
 obtain⟨w6,hw6⟩:∃ x,w5.setCell (aD pb 9) (.pointer (some (aD sb 0)))=x:=⟨_,rfl⟩
 have HEND:Hid (Began ts N q room w ⟨W0,f,p,pb,sb⟩ M w6):=by
  obtain⟨hse,hmn,hb5⟩:=HSE.out;have hk:Kept (fun b=>¬ b=pb) w5 w6:=by rw[<- hw6]; exact Kept.setCell _ _ _ (fun h=>h rfl)
  have hg6:=hg5.set 9 (.pointer (some (aD sb 0)));rw[hw6] at hg6;have hl:=HB4.out.2;have hpb:=HPB.out;have hw2:w.heap.size<=s2.heap.size:=HBW.out.size;have hw4:s2.heap.size<=w4.heap.size:=HB4.out.1.size;have hnp:¬ M pb:=fun h=>by
   have:=hmn pb h;omega
  refine⟨HE.out,HP.out.2.1,⟨L,hse.other (N:=fun b=>b=pb) (N':=fun _=>False) (fun b h=>.inl (.inr h)) (fun b hb e=>hnp (e ▸ hb)) hk (fun b h=>h.elim) (fun b=>⟨fun h=>.inl h,fun h=>by
   rcases h with h | h
   ·exact h
   ·exact h.elim⟩) (fun b h=>h.elim) (fun b h=>h.elim)⟩,hg6.cell 9,fun b hb=>?_,?_,hnp,?_⟩
  ·have:=hmn b hb;omega
  ·show w.heap.size<=pb
   omega
  ·have h5:Below w.heap.size w w5:=bQ1 (bQ1 HBW.out HB4.out.1) hb5;exact h5.trans (hk.below h5.size (fun b hb e=>by omega))
 clear hS hg3 hg4 hg5 c9 f9 HSE HE HB4 HN;go_upto_region 8 with fail;rw[hw6];go_wp2;go_ret2;exact⟨_,M,rfl,HEND.out⟩
end Go.Proofs.YtlpbelhfpoilpabGreatDoor
namespace Go.Scout
open Go.RowKit
def pickI (c n:Int):Int:=Int.tmod (if c<0 then -(c+1) else c) n
theorem pickI_range {c n:Int} (hn:0<n):0<=pickI c n/\pickI c n<n:=by
 unfold pickI;have h:0<=(if c<0 then -(c+1) else c):=by split <;> omega
 exact⟨Int.tmod_nonneg _ h,Int.tmod_lt_of_pos _ hn⟩
theorem cell_keep0 {A B:World} {p:Addr} {v:Value} (h:A.cell? p=some v) (hk:Kept (fun _=>True) A B):B.cell? p=some v:=
 (World.cell?_of_block (hk.block _ (cell_lt h) trivial)).trans h
theorem cell_keepN {A B:World} {p:Addr} {v:Value} {n:Nat} (h:A.cell? p=some v) (hk:Kept (fun b=>b≠n) A B) (hp:p.block≠n):B.cell? p=some v:=
 (World.cell?_of_block (hk.block _ (cell_lt h) hp)).trans h
structure MakerAt (mb:Nat) (lo:Option Addr) (lc:Nat) (l:List Int) (W:World):Prop where
 num:∃ k:Nat,k<=l.length/\W.cell? (aD mb 1)=some (.int .i64 k)
 lst:W.cell? (aD mb 0)=some (.slice lo l.length lc)
 thaw:W.frozen? (aD mb 1)=false
 ints:IntsAt W lo l
 off:∀ a,lo=some a->a.block≠mb
theorem MakerAt.keep {mb:Nat} {lo:Option Addr} {lc:Nat} {l:List Int} {A B:World} (h:MakerAt mb lo lc l A) (hk:Kept (fun _=>True) A B):MakerAt mb lo lc l B:=by
 obtain⟨k,hk1,hk2⟩:=h.num;exact⟨⟨k,hk1,cell_keep0 hk2 hk⟩,cell_keep0 h.lst hk,(World.frozen?_of_block (a:=(aD mb 1)) (hk.block mb (cell_lt (p:=(aD mb 0)) h.lst) trivial)).trans h.thaw,⟨h.ints.1,h.ints.2.keep fun a ha hlt=>hk.block _ hlt trivial⟩,h.off⟩
theorem MakerAt.more {mb:Nat} {lo:Option Addr} {lc:Nat} {l:List Int} {A:World} (h:MakerAt mb lo lc l A) {k:Nat} (hk:k<=l.length):MakerAt mb lo lc l (A.setCell (aD mb 1) (.int .i64 k)):=by
 obtain⟨k0,_,hk2⟩:=h.num;have hkk:Kept (fun b=>b≠mb) A (A.setCell (aD mb 1) (.int .i64 k)):=⟨rfl,rfl,rfl,by simp[World.setCell],fun b _ hb=>Below.heap_setCell A _ _ b hb⟩
 refine⟨⟨k,hk,World.cell?_setCell_same' _ _ _ (by rw[hk2]; rfl)⟩,?_,by rw[World.frozen?_setCell]; exact h.thaw,⟨h.ints.1,h.ints.2.keep fun a ha hlt=>hkk.block _ hlt (h.off a ha)⟩,h.off⟩;exact (World.cell?_setCell_other A (aD mb 1) (aD mb 0) (.int .i64 k) (fun e=>by cases e)).trans h.lst
end Go.Scout
namespace Go.Proofs.YtlpbelhfpoilpabGreatDoor
open Go.RowKit Go.Scout
theorem pick1_any (c n:Int) (w:World) (hn:0<n) (hc:-9223372036854775808<=c/\c<=9223372036854775807) :
  Calls Tryz.prog 6 #[.int .i64 c,.int .i64 n] w fun e w'=>e=.returned (.int .i64 (pickI c n))/\w' = w:=by
 have hn0:¬ n=0:=by omega
 by_cases h0:c<0
 ·have hw1:wrap64 (c+1)=c+1:=by unfold wrap64; omega
  have hw2:wrap64 (-(c+1)) = -(c+1):=by unfold wrap64; omega
  have hR:pickI c n = -((c+1).tmod n):=by unfold pickI; rw[if_pos h0,Int.neg_tmod]
  rw[hR];clear hR;go_enter Tryz.func6,Tryz.ntmps6;go_wp2;go_ret;exact⟨rfl,rfl⟩
 ·have hR:pickI c n=c % n:=by unfold pickI; rw[if_neg h0,Int.tmod_eq_emod_of_nonneg (by omega)]
  rw[hR];clear hR;go_enter Tryz.func6,Tryz.ntmps6;go_wp2;go_ret;exact⟨rfl,rfl⟩
theorem next_any (mb:Nat) (lo:Option Addr) (lc:Nat) (l:List Int) (n:Int) (W:World) (hm:MakerAt mb lo lc l W) (hn:0<n) (hl:∀ x∈l,-9223372036854775808<=x/\x<=9223372036854775807) :
  Calls Tryz.prog 12 #[.pointer (some (aD mb 0)),.int .i64 n] W fun e W'=>∃ k:Int,e=.returned (.int .i64 k)/\0<=k/\k<n/\MakerAt mb lo lc l W'/\Kept (fun b=>b≠mb) W W':=by
 obtain⟨k,hk,hck⟩:=hm.num;have hcl:=hm.lst;have hth:=hm.thaw;have hlen:=hm.ints.1;have HM:Hid _:=hm;have HL:Hid _:=hl;clear hm hl;by_cases hlt:k<l.length
 ·have hge:¬ (k:Int) ≥ (l.length:Int):=by omega
  obtain⟨b,off,rfl,hcs⟩:=HM.out.ints.get hlt;have hcx:=hcs k hlt;have hxr:=HL.out l[k] (List.getElem_mem hlt);have e1:l.getD k 0=l[k]:=by simp[List.getD,hlt]
  rw[e1] at hcx;generalize l[k]=x at *;have hbm:b≠mb:=HM.out.off _ rfl;clear hcs e1;go_enter Tryz.func12,Tryz.ntmps12;go_wp2;go_quiet (fail);go_wp2;have hM1:=MakerAt.more (MakerAt.keep HM.out (Kept.drewN W nq)) (k:=k+1) (by omega);have hk1:Kept (fun b=>b≠mb) W ((W.drewN nq).setCell (aD mb 1) (.int .i64 ((k+1:Nat):Int))):=(Kept.drewN W nq).trans ⟨rfl,rfl,rfl,by simp[World.setCell],fun b _ hb=>Below.heap_setCell _ _ _ b hb⟩;have hcx1:((W.drewN nq).setCell (aD mb 1) (.int .i64 ((k+1:Nat):Int))).cell? (aD b (off+k))=some (.int .i64 x):=cell_keepN hcx hk1 hbm;obtain⟨W2,hW2⟩:∃ W2,(W.drewN nq).setCell (aD mb 1) (.int .i64 ((k+1:Nat):Int))=W2:=⟨_,rfl⟩
  have hW3:(W.drewN nq).setCell (aD mb 1) (.int .i64 ((k:Int)+1))=W2:=hW2;rw[hW2] at hM1 hk1 hcx1;rw[hW3];obtain⟨k2,_,hck2⟩:=hM1.num;have hk2:W2.cell? (aD mb 1)=some (.int .i64 ((k:Int)+1)):=by
   rw[<- hW2];exact World.cell?_setCell_same' _ _ _ (by rw[cell_keep0 hck (Kept.drewN W nq)]; rfl)
  have hcl2:=hM1.lst;have HM1:Hid _:=hM1;have HK1:Hid _:=hk1;clear hM1 hk1 hW2 hW3 hck2 hck hcl hcx HM;have hpk:=fun W=>pick1_any x n W hn hxr
  go_quiet ((go_at_call 6; exact Calls.quiet_of_same (hpk _)));go_wp2;go_ret;have hr:=pickI_range (c:=x) hn;exact⟨_,rfl,hr.1,hr.2,MakerAt.keep HM1.out (Kept.drewN _ _),HK1.out.trans (Kept.drewN _ _)⟩
 ·have hge:(k:Int) ≥ (l.length:Int):=by omega
  go_enter Tryz.func12,Tryz.ntmps12;go_wp2;go_quiet (fail);go_wp2;go_ret;exact⟨0,rfl,by omega,hn,MakerAt.keep HM.out (Kept.drewN _ _),Kept.drewN _ _⟩
end Go.Proofs.YtlpbelhfpoilpabGreatDoor
