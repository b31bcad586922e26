import Derived.Test.YtlpbelhfpoilpaaGreatDoorC16
import Derived.Test.YtlpbelhfpoilpaaGreatDoorC17
import Derived.Test.YtlpbelhfpoilpaaGreatDoorC28
import Derived.Test.YtlpbelhfpoilpaaGreatDoorC29
set_option linter.all false
set_option maxRecDepth 100000
set_option maxHeartbeats 16000000
namespace Go.Proofs.YtlpbelhfpoilpaaGreatDoor
open Go.RowKit Go.Scout
theorem isFull1_any (ad:Option Addr) (n cap:Nat) (w:World) :
  Calls Tryz.prog 210 #[.agg #[.slice ad n cap]] w fun e w'=>e=.returned (.bool (decide (3<n)))/\Below w.heap.size w w':=by
 go_enter Tryz.func210,Tryz.ntmps210;go_wp2;go_ret;exact⟨ret_bool (decide_eq_decide.2 (by omega)),bQ2 _ _⟩
theorem indexC_any (ao:Option Addr) (cap:Nat) (ls:List ClauseV) (w:World) (hx:ClausesAt w ao ls) :
  Calls Tryz.prog 280 #[.slice ao ls.length cap,.func (.func 210) #[] #[]] w fun e w'=>∃ r,e=.returned (.int .i64 r)/\foundAt r (ls.any fun c=>decide (3<c.cs.length))/\Below w.heap.size w w':=by
 have hl:=hx.1;go_enter Tryz.func280,Tryz.ntmps280;go_wp2;go_loopw [8] (fun i wr=>∃ k:Nat,k<=ls.length/\i=.int .i64 k/\Hid (∀ j,j<k->decide (3<(ls.getD j lz).cs.length)=false)/\Below w.heap.size w wr) (fun i _=>ls.length-(intOf i).toNat)
 case atStart=>exact⟨0,Nat.zero_le _,rfl,fun j hj=>absurd hj (by omega),Below.refl _ _⟩
 case round=>
  obtain⟨k,hk,rfl,HP,hb⟩:=hrel;by_cases hlt:k<ls.length
  ·obtain⟨b,off,rfl,hc⟩:=hx.2.1.get hlt;have hck:=cB hb (hc k hlt);unfold ClauseV.val at hck;have HA:Hid (decide (3<(ls.getD k lz).cs.length)=true->(ls.any fun c=>decide (3<c.cs.length))=true):=fun h=>any_at (p:=fun c:ClauseV=>decide (3<c.cs.length)) (z:=lz) hlt h
   generalize (ls.getD k lz).ad=ad at *;generalize (ls.getD k lz).cap=cp at *;generalize hge:(ls.getD k lz).cs.length=cl at *;have HGE:Hid ((ls.getD k lz).cs.length=cl):=hge;have hC:=isFull1_any ad cl cp wr;clear hge hc hx;by_cases h3:3<cl
   ·rw[decide_eq_true h3] at hC;go_wp2_with fail;refine hC.mono ?_;clear hC;rintro e w2 ⟨rfl,hb2⟩;go_wp2;go_ret;exact⟨_,ret_int rfl,⟨by omega,by rw[HA.out (decide_eq_true h3)]; simp⟩,bQ1 hb hb2⟩
   ·rw[decide_eq_false h3] at hC;go_wp2_with fail;refine hC.mono ?_;clear hC;rintro e w2 ⟨rfl,hb2⟩;go_wp2;go_roundw
    case rel=>
     refine⟨k+1,by omega,by go_num,fun j hj=>?_,bQ1 hb hb2⟩;by_cases hjk:j=k
     ·subst hjk; rw[HGE.out]; exact decide_eq_false (by omega)
     ·exact HP.out j (by omega)
    case measure=>simp[intOf]; omega
  ·have HA:Hid ((ls.any fun c=>decide (3<c.cs.length))=false):=any_none (z:=lz) (fun j hj=>HP.out j (by omega));go_wp2;go_ret;exact⟨_,ret_int rfl,⟨by omega,by rw[HA.out]; rfl⟩,hb⟩
theorem containsC_any (ao:Option Addr) (cap:Nat) (ls:List ClauseV) (w:World) (hx:ClausesAt w ao ls) :
  Calls Tryz.prog 209 #[.slice ao ls.length cap,.func (.func 210) #[] #[]] w fun e w'=>e=.returned (.bool (wideB ls ls.length))/\Below w.heap.size w w':=by
 have hC:=indexC_any ao cap ls w hx;rw[wide_any] at hC;go_enter Tryz.func209,Tryz.ntmps209;go_wp2_with fail;refine hC.mono ?_;clear hC;rintro e w2 ⟨r,rfl,hr,hb2⟩;have HR:Hid _:=hr.2;clear hr;go_wp2;go_ret;exact⟨ret_bool HR.out,hb2⟩
theorem isFull_any (q:QueryV) (w:World) (hq:ClausesAt w q.wad q.wh) :
  Calls Tryz.prog 143 #[.agg q.cells] w fun e w'=>e=.returned (.bool (fullB q.src.xs q.whs q.keys.xs q.sums.xs q.sel.xs q.ord.xs))/\Below w.heap.size w w':=by
 have HE:Hid _:=q.full_eq;generalize fullB q.src.xs q.whs q.keys.xs q.sums.xs q.sel.xs q.ord.xs=FB at *;have hC:=fun o=>containsC_any q.wad q.wcap q.wh (w.alloc o) (hq.below (bQ2 _ _))
 have hwl:=hq.1;clear hq;obtain⟨src,wad,wcap,wh,group,keys,sums,sel,ord⟩:=q;simp only at HE hC hwl;unfold QueryV.cells IntsV.val;simp only;by_cases hf:5<src.xs.length∨8<wh.length∨8<sel.xs.length∨4<keys.xs.length∨4<sums.xs.length∨4<ord.xs.length
 ·have HF:Hid (true=FB):=show true=FB by rw[HE.out,decide_eq_true hf,Bool.true_or]
  clear hC HE;have hcase:(5<src.xs.length)∨(¬ 5<src.xs.length/\8<wh.length)∨(¬ 5<src.xs.length/\¬ 8<wh.length/\4<ord.xs.length)∨(¬ 5<src.xs.length/\¬ 8<wh.length/\¬ 4<ord.xs.length/\8<sel.xs.length)∨
   (¬ 5<src.xs.length/\¬ 8<wh.length/\¬ 4<ord.xs.length/\¬ 8<sel.xs.length/\4<keys.xs.length)∨(¬ 5<src.xs.length/\¬ 8<wh.length/\¬ 4<ord.xs.length/\¬ 8<sel.xs.length/\¬ 4<keys.xs.length/\4<sums.xs.length):=by omega
  clear hf;rcases hcase with h1 | ⟨h1,h2⟩ | ⟨h1,h2,h3⟩ | ⟨h1,h2,h3,h4⟩ | ⟨h1,h2,h3,h4,h5⟩ | ⟨h1,h2,h3,h4,h5,h6⟩
  all_goals
   go_enter Tryz.func143,Tryz.ntmps143;go_wp2;go_ret;exact⟨ret_bool HF.out,bQ2 _ _⟩
 ·have HF:Hid (wideB wh wh.length=FB):=show wideB wh wh.length=FB by rw[HE.out,decide_eq_false hf,Bool.false_or]
  have h1:¬ 5<src.xs.length:=by omega
  have h2:¬ 8<wh.length:=by omega
  have h3:¬ 8<sel.xs.length:=by omega
  have h4:¬ 4<keys.xs.length:=by omega
  have h5:¬ 4<sums.xs.length:=by omega
  have h6:¬ 4<ord.xs.length:=by omega
  clear HE hf;generalize wideB wh wh.length=Y at *;go_enter Tryz.func143,Tryz.ntmps143;go_wp2_with fail;refine (hC _).mono ?_;clear hC;rintro e w2 ⟨rfl,hb2⟩;go_wp2;go_ret;exact⟨ret_bool HF.out,bQ1 (bQ2 _ _) hb2⟩
theorem outWidth_any (q:QueryV) (w:World) (h1:q.keys.xs.length<=1000) (h2:q.sums.xs.length<=1000) :
  Calls Tryz.prog 215 #[.agg q.cells] w fun e w'=>e=.returned (.int .i64 (outN q.group q.keys.xs q.sums.xs q.sel.xs))/\Below w.heap.size w w':=by
 obtain⟨src,wad,wcap,wh,group,keys,sums,sel,ord⟩:=q;simp only at h1 h2;unfold QueryV.cells IntsV.val
 cases group
 ·go_enter Tryz.func215,Tryz.ntmps215;go_wp2;go_ret;exact⟨ret_int rfl,bQ2 _ _⟩
 ·go_enter Tryz.func215,Tryz.ntmps215;go_wp2;go_ret;exact⟨ret_int rfl,bQ2 _ _⟩
theorem countColumns_any (ao:Option Addr) (cap:Nat) (ts:List TableD) (sad:Option Addr) (scap:Nat) (xs:List Int) (w:World) (hx:TablesAt w ao ts) (hc:catB ts=true) (hq:IntsAt w sad xs) (h5:xs.length<=5) (ha:allB xs ts.length=true) :
  Calls Tryz.prog 212 #[.slice ao ts.length cap,.slice sad xs.length scap] w fun e w'=>e=.returned (.int .i64 (widthN ts xs))/\w' = w:=by
 have hl:=hx.1;have HC:Hid (catB ts=true):=hc;have HA:Hid (allB xs ts.length=true):=ha;clear hc ha;go_enter Tryz.func212,Tryz.ntmps212;go_wp2;go_loop [5,10] (fun n i=>∃ k:Nat,k<=xs.length/\i=.int .i64 k/\n=.int .i64 (widthN ts (xs.take k))) (fun _ i=>xs.length-(intOf i).toNat)
 case atStart=>exact⟨0,Nat.zero_le _,rfl,rfl⟩
 case round=>
  obtain⟨k,hk,rfl,rfl⟩:=hrel;have hbd:=widthN_bd HC.out HA.out k hk;by_cases hlt:k<xs.length
  ·obtain⟨sb,soff,rfl,hs⟩:=hq.get hlt;have hsk:=hs k hlt;have hr:=allB_at HA.out hlt;have hcol:=cols_of HC.out (i:=xs[k].toNat) (by omega);obtain⟨b,off,rfl,c0,-⟩:=hx.2 xs[k].toNat (by omega);have HS:Hid (widthN ts (xs.take (k+1))=widthN ts (xs.take k)+(ts.getD xs[k].toNat tz).cols):=widthN_snoc ts xs k hlt;generalize (ts.getD xs[k].toNat tz).cols=cc at *;generalize widthN ts (xs.take k)=W0 at *;clear hs hx hq;go_wp2;go_round
   case rel=>exact⟨k+1,by omega,by go_num,by rw[HS.out]⟩
   case measure=>simp[intOf]; omega
  ·go_wp2;go_ret;have:k=xs.length:=by omega
   subst this;exact⟨ret_int (by rw[List.take_length]),rfl⟩
theorem clausesL_bad {ls:List ClauseV} {n:Int} {k:Nat} (hk:k<ls.length) (h:clauseB (ls.getD k lz).cs n=false):false=clausesB (ls.map ClauseV.cs) n:=
 (@clausesB_bad ⟨⟨none,0,[]⟩,none,0,ls,false,⟨none,0,[]⟩,⟨none,0,[]⟩,⟨none,0,[]⟩,⟨none,0,[]⟩⟩ n k hk h).symm
theorem clausesL_good {ls:List ClauseV} {n:Int} (h:∀ k,k<ls.length->clauseB (ls.getD k lz).cs n=true):true=clausesB (ls.map ClauseV.cs) n:=
 (@clausesB_good ⟨⟨none,0,[]⟩,none,0,ls,false,⟨none,0,[]⟩,⟨none,0,[]⟩,⟨none,0,[]⟩,⟨none,0,[]⟩⟩ n h).symm
theorem clausesQ_any (ao:Option Addr) (cap:Nat) (ls:List ClauseV) (n:Int) (w:World) (hx:ClausesAt w ao ls) :
  Calls Tryz.prog 213 #[.slice ao ls.length cap,.int .i64 n] w fun e w'=>e=.returned (.bool (clausesB (ls.map ClauseV.cs) n))/\Below w.heap.size w w':=by
 have hl:=hx.1;have HBD:Hid _:=@clausesL_bad ls n;have HGD:Hid _:=@clausesL_good ls n;generalize clausesB (ls.map ClauseV.cs) n=R at *;go_enter Tryz.func213,Tryz.ntmps213;go_wp2;go_loopw [11] (fun i wr=>∃ k:Nat,k<=ls.length/\i=.int .i64 k/\Hid (∀ j,j<k->clauseB (ls.getD j lz).cs n=true)/\Below w.heap.size w wr) (fun i _=>ls.length-(intOf i).toNat)
 case atStart=>exact⟨0,Nat.zero_le _,rfl,fun j hj=>absurd hj (by omega),Below.refl _ _⟩
 case round=>
  obtain⟨k,hk,rfl,HP,hb⟩:=hrel;by_cases hlt:k<ls.length
  ·obtain⟨b,off,rfl,hc⟩:=hx.2.1.get hlt;have hck:=cB hb (hc k hlt);have hcd:=hx.2.2 k hlt;have HBc:Hid (clauseB (ls.getD k lz).cs n=false->false=R):=fun h=>HBD.out hlt h
   generalize hge:ls.getD k lz=cl at *;have HGE:Hid (ls.getD k lz=cl):=hge;clear hge hc hx;obtain⟨ad,cp,cs⟩:=cl;unfold ClauseV.val at hck;simp only at hck hcd;have hcl2:=hcd.1;have hbs:=hb.size;by_cases hc0:cs.length=0
   ·have HF:Hid (false=R):=HBc.out (clauseB_none (by simp only; omega));go_wp2;go_ret;exact⟨ret_bool HF.out,hb.alloc hbs _⟩
   ·have hc0':((cs.length:Int)==0)=false:=by simpa using hc0
    have HC0:Hid (¬ cs.length=0):=hc0;clear hc0;go_wp2;go_loopw [22] (fun i wr2=>∃ m:Nat,m<=cs.length/\i=.int .i64 m/\Hid (∀ j,j<m->condB (cs.getD j cz) n=true)/\Below w.heap.size w wr2) (fun i _=>cs.length-(intOf i).toNat)
    case atStart=>exact⟨0,Nat.zero_le _,rfl,fun j hj=>absurd hj (by omega),hb.alloc hbs _⟩
    case round=>
     obtain⟨m,hm,rfl,HM,hb2⟩:=hrel;have hbs2:=hb2.size;clear hck hc0';by_cases hml:m<cs.length
     ·obtain⟨b2,off2,rfl,c0,c1,c2,c3,c4⟩:=hcd.2 m hml;have d0:=cB hb2 c0;have d1:=cB hb2 c1;have d2:=cB hb2 c2;have d3:=cB hb2 c3;have d4:=cB hb2 c4;clear c0 c1 c2 c3 c4;have hC:=fun x=>condFits_any (cs.getD m cz) n x
      unfold CondD.val at hC;generalize hgc:cs.getD m cz=cc at *;have HGC:Hid (cs.getD m cz=cc):=hgc;clear hgc
      cases hcb:condB cc n
      ·rw[hcb] at hC;have HF:Hid (false=R):=HBc.out (clauseB_bad hml (by rw[HGC.out]; exact hcb));go_wp2_with fail;refine (hC _).mono ?_;clear hC;rintro e w4 ⟨rfl,hb4⟩;go_wp2;go_ret;exact⟨ret_bool HF.out,bQ1 (hb2.alloc hbs2 _) hb4⟩
      ·rw[hcb] at hC;have HCB2:Hid (condB cc n=true):=hcb;clear hcb;go_wp2_with fail;refine (hC _).mono ?_;clear hC;rintro e w4 ⟨rfl,hb4⟩;go_wp2;go_roundw
       case rel=>
        refine⟨m+1,by omega,by go_num,fun j hj=>?_,bQ1 (hb2.alloc hbs2 _) hb4⟩;by_cases hjm:j=m
        ·subst hjm; rw[HGC.out]; exact HCB2.out
        ·exact HM.out j (by omega)
       case measure=>simp[intOf]; omega
     ·have HG:Hid (clauseB cs n=true):=clauseB_good (by have:=HC0.out; omega) (fun j hj=>HM.out j (by omega));go_wp2;go_roundw
      case rel=>
       refine⟨k+1,by omega,by go_num,fun j hj=>?_,hb2⟩;by_cases hjk:j=k
       ·subst hjk; rw[HGE.out]; exact HG.out
       ·exact HP.out j (by omega)
      case measure=>simp[intOf]; omega
  ·have HF:Hid (true=R):=HGD.out (fun j hj=>HP.out j (by omega));go_wp2;go_ret;exact⟨ret_bool HF.out,hb⟩
def fitsB (n:Int) (group:Bool) (keys sums sel:List Int):Bool:=
 if group then decide (sel.length=0)&&allB sums n&&allB keys n&&apartB keys else decide (0<sel.length)&&allB sel n&&decide (keys.length=0)&&decide (sums.length=0)
theorem outputFits_any (q:QueryV) (n:Int) (w:World) (hk:q.keys.At w) (hs:q.sums.At w) (he:q.sel.At w) (hkc:q.keys.xs.length<=q.keys.cap) :
  Calls Tryz.prog 214 #[.agg q.cells,.int .i64 n] w fun e w'=>e=.returned (.bool (fitsB n q.group q.keys.xs q.sums.xs q.sel.xs))/\Below w.heap.size w w':=by
 obtain⟨src,wad,wcap,wh,group,⟨kad,kcap,keys⟩,⟨uad,ucap,sums⟩,⟨ead,ecap,sel⟩,ord⟩:=q;unfold IntsV.At at hk hs he;simp only at hk hs he hkc;unfold QueryV.cells IntsV.val;simp only;have hkl:=hk.1;have hul:=hs.1;have hel:=he.1;have hC1:=fun x (h:Below w.heap.size w x)=>allBelow_any ead ecap sel n x (IntsAt.below h he)
 have hC2:=fun x (h:Below w.heap.size w x)=>allBelow_any uad ucap sums n x (IntsAt.below h hs)
 have hC3:=fun x (h:Below w.heap.size w x)=>allBelow_any kad kcap keys n x (IntsAt.below h hk)
 have hC4:=fun x (h:Below w.heap.size w x)=>allDifferent_any kad kcap keys x (IntsAt.below h hk) hkc
 clear hk hs he;have HE:Hid (fitsB n group keys sums sel=fitsB n group keys sums sel):=rfl;generalize hR:fitsB n group keys sums sel=R at *;clear HE;unfold fitsB at hR;generalize allB sel n=A1 at *;generalize allB sums n=A2 at *;generalize allB keys n=A3 at *;generalize apartB keys=A4 at *
 cases group
 ·simp only[Bool.false_eq_true,if_false] at hR;clear hC2 hC3 hC4;by_cases h0:0<sel.length
  ·rw[decide_eq_true h0,Bool.true_and] at hR
   cases A1
   ·have HF:Hid (false=R):=show false=R by rw[<- hR]; rfl
    clear hR;go_enter Tryz.func214,Tryz.ntmps214;go_wp2_with fail;refine (hC1 _ (bQ2 _ _)).mono ?_;clear hC1;rintro e w2 ⟨rfl,hb2⟩;go_wp2;go_ret;exact⟨ret_bool HF.out,bQ1 (bQ2 _ _) hb2⟩
   ·rw[Bool.true_and] at hR;by_cases h1:keys.length=0
    ·have h1':((keys.length:Int)==0)=true:=by simpa using h1
     have HF:Hid (((sums.length:Int)==0)=R):=show ((sums.length:Int)==0)=R by rw[<- hR,decide_eq_true h1,Bool.true_and,eq0_len]
     clear hR h1;go_enter Tryz.func214,Tryz.ntmps214;go_wp2_with fail;refine (hC1 _ (bQ2 _ _)).mono ?_;clear hC1;rintro e w2 ⟨rfl,hb2⟩;have hcell:=bcell hb2;simp at hcell;go_wp2;go_ret;exact⟨ret_bool HF.out,bQ1 (bQ2 _ _) hb2⟩
    ·have h1':((keys.length:Int)==0)=false:=by simpa using h1
     have HF:Hid (false=R):=show false=R by rw[<- hR,decide_eq_false h1]; rfl
     clear hR h1;go_enter Tryz.func214,Tryz.ntmps214;go_wp2_with fail;refine (hC1 _ (bQ2 _ _)).mono ?_;clear hC1;rintro e w2 ⟨rfl,hb2⟩;have hcell:=bcell hb2;simp at hcell;go_wp2;go_ret;exact⟨ret_bool HF.out,bQ1 (bQ2 _ _) hb2⟩
  ·have HF:Hid (false=R):=show false=R by rw[<- hR,decide_eq_false h0]; rfl
   clear hR;go_enter Tryz.func214,Tryz.ntmps214;go_wp2;go_ret;exact⟨ret_bool HF.out,bQ2 _ _⟩
 ·simp only[if_true] at hR;clear hC1;by_cases h0:0<sel.length
  ·have HF:Hid (false=R):=show false=R by rw[<- hR,decide_eq_false (by omega)]; rfl
   clear hR;go_enter Tryz.func214,Tryz.ntmps214;go_wp2;go_ret;exact⟨ret_bool HF.out,bQ2 _ _⟩
  ·rw[decide_eq_true (show sel.length=0 by omega),Bool.true_and] at hR
   cases A2
   ·have HF:Hid (false=R):=show false=R by rw[<- hR]; rfl
    clear hR;go_enter Tryz.func214,Tryz.ntmps214;go_wp2_with fail;refine (hC2 _ (bQ2 _ _)).mono ?_;clear hC2;rintro e w2 ⟨rfl,hb2⟩;go_wp2;go_ret;exact⟨ret_bool HF.out,bQ1 (bQ2 _ _) hb2⟩
   ·rw[Bool.true_and] at hR
    cases A3
    ·have HF:Hid (false=R):=show false=R by rw[<- hR]; rfl
     clear hR;go_enter Tryz.func214,Tryz.ntmps214;go_wp2_with fail;refine (hC2 _ (bQ2 _ _)).mono ?_;clear hC2;rintro e w2 ⟨rfl,hb2⟩;have hcell:=bcell hb2;simp at hcell;go_wp2_with fail;refine (hC3 _ (bQ1 (bQ2 _ _) hb2)).mono ?_;clear hC3;rintro e w3 ⟨rfl,hb3⟩;go_wp2;go_ret;exact⟨ret_bool HF.out,bQ1 (bQ1 (bQ2 _ _) hb2) hb3⟩
    ·have HF:Hid (A4=R):=show A4=R by rw[<- hR,Bool.true_and]
     clear hR;go_enter Tryz.func214,Tryz.ntmps214;go_wp2_with fail;refine (hC2 _ (bQ2 _ _)).mono ?_;clear hC2;rintro e w2 ⟨rfl,hb2⟩;have hcell:=bcell hb2;simp at hcell;go_wp2_with fail;refine (hC3 _ (bQ1 (bQ2 _ _) hb2)).mono ?_;clear hC3;rintro e w3 ⟨rfl,hb3⟩;have hz:w.heap.size<w2.heap.size:=by have:=hb2.size; simp at this; omega
     have hcell3:=bcell hb3;go_wp2_with fail;refine (hC4 _ (bQ1 (bQ1 (bQ2 _ _) hb2) hb3)).mono ?_;clear hC4;rintro e w4 ⟨rfl,rfl⟩;go_wp2;go_ret;exact⟨ret_bool HF.out,bQ1 (bQ1 (bQ2 _ _) hb2) hb3⟩
theorem restB_fits (n:Int) (group:Bool) (keys sums sel ord:List Int) :
  restB n group keys sums sel ord=(fitsB n group keys sums sel&&(allB ord (outN group keys sums sel)&&apartB ord)):=by
 unfold restB fitsB;generalize allB ord (outN group keys sums sel)=O;generalize apartB ord=P
 cases group
 ·by_cases hs:sel.length=0
  ·have:¬ 0<sel.length:=by omega
   simp[hs]
  ·have h1:decide (sel.length=0)=false:=decide_eq_false hs;have h2:decide (0<sel.length)=true:=decide_eq_true (by omega);rw[h1,h2];by_cases hk:keys.length=0
   ·by_cases hu:sums.length=0
    ·have hk':keys=[]:=List.eq_nil_of_length_eq_zero hk;have hu':sums=[]:=List.eq_nil_of_length_eq_zero hu;subst hk' hu';have ha:apartB []=true:=by decide
     rw[ha]
     cases allB sel n <;> cases O <;> cases P <;> rfl
    ·rw[decide_eq_false hu,decide_eq_false (show ¬ keys.length+sums.length=0 by omega)];simp
   ·rw[decide_eq_false hk,decide_eq_false (show ¬ keys.length+sums.length=0 by omega)];simp
 ·by_cases hs:sel.length=0
  ·have hs':sel=[]:=List.eq_nil_of_length_eq_zero hs;subst hs';have h1:allB [] n=true:=rfl;rw[h1]
   cases allB sums n <;> cases allB keys n <;> cases apartB keys <;> cases O <;> cases P <;> rfl
  ·rw[decide_eq_false hs];simp
def queryB (ts:List TableD) (src:List Int) (wh:List (List CondD)) (group:Bool) (keys sums sel ord:List Int):Bool:=
 decide (0<src.length)&&(allB src ts.length&&(clausesB wh (widthN ts src)&&(fitsB (widthN ts src) group keys sums sel&&(allB ord (outN group keys sums sel)&&apartB ord))))
theorem check_query {ts:List TableD} {src:List Int} {wh:List (List CondD)} {group:Bool} {keys sums sel ord:List Int} (hc:catB ts=true) (hf:fullB src wh keys sums sel ord=false) :
  checkN ts src wh group keys sums sel ord=if queryB ts src wh group keys sums sel ord then 0 else 3:=by
 unfold checkN queryB;rw[if_neg (by simp[hc]),if_neg (by simp[hf]),restB_fits];generalize (fitsB (widthN ts src) group keys sums sel&&(allB ord (outN group keys sums sel)&&apartB ord))=X;by_cases h0:0<src.length
 ·rw[decide_eq_true h0]
  cases allB src ts.length <;> cases clausesB wh (widthN ts src) <;> cases X <;> simp[h0]
 ·rw[decide_eq_false h0];simp[h0]
theorem isQuery_any (ao:Option Addr) (cap:Nat) (ts:List TableD) (q:QueryV) (w:World) (hx:TablesAt w ao ts) (hq:q.At w) (hc:catB ts=true)
  (hf:fullB q.src.xs q.whs q.keys.xs q.sums.xs q.sel.xs q.ord.xs=false) (hkc:q.keys.xs.length<=q.keys.cap) (hoc:q.ord.xs.length<=q.ord.cap) :
  Calls Tryz.prog 144 #[.slice ao ts.length cap,.agg q.cells] w fun e w'=>e=.returned (.bool (queryB ts q.src.xs q.whs q.group q.keys.xs q.sums.xs q.sel.xs q.ord.xs))/\Below w.heap.size w w':=by
 have hlen:¬ (5<q.src.xs.length∨8<q.wh.length∨8<q.sel.xs.length∨4<q.keys.xs.length∨4<q.sums.xs.length∨4<q.ord.xs.length):=by
  intro h;rw[QueryV.full_eq,decide_eq_true h,Bool.true_or] at hf
  cases hf
 have hOW:=fun x=>outWidth_any q x (by omega) (by omega)
 have hOF:=fun n x (h:Below w.heap.size w x)=>outputFits_any q n x (IntsAt.below h hq.keys) (IntsAt.below h hq.sums) (IntsAt.below h hq.sel) hkc
 unfold queryB;obtain⟨src,wad,wcap,wh,group,keys,sums,sel,ord⟩:=q;have hsrc:IntsAt w src.ad src.xs:=hq.src;have hord:IntsAt w ord.ad ord.xs:=hq.ord;have hwh:ClausesAt w wad wh:=hq.wh;have hwhs:(QueryV.mk src wad wcap wh group keys sums sel ord).whs=wh.map ClauseV.cs:=rfl;simp only[hwhs] at *;clear hwhs hq hf;unfold QueryV.cells IntsV.val at *;simp only at *;have h1:src.xs.length<=5:=by omega
 have hcl1:=fun x (h:Below w.heap.size w x)=>allBelow_any src.ad src.cap src.xs ts.length x (hsrc.below h)
 have hcl2:=fun n x (h:Below w.heap.size w x)=>clausesQ_any wad wcap wh n x (hwh.below h)
 have hcl3:=fun x (h:Below w.heap.size w x)=>allBelow_any ord.ad ord.cap ord.xs (outN group keys.xs sums.xs sel.xs) x (hord.below h)
 have hcl4:=fun x (h:Below w.heap.size w x)=>allDifferent_any ord.ad ord.cap ord.xs x (hord.below h) hoc
 generalize hR:(decide (0<src.xs.length)&&(allB src.xs ts.length&&(clausesB (wh.map ClauseV.cs) (widthN ts src.xs)&&(fitsB (widthN ts src.xs) group keys.xs sums.xs sel.xs&&(allB ord.xs (outN group keys.xs sums.xs sel.xs)&&apartB ord.xs)))))=R;by_cases h0:0<src.xs.length
 ·rw[decide_eq_true h0,Bool.true_and] at hR;have h0':((src.xs.length:Int)==0)=false:=by rw[beq_eq_false_iff_ne]; omega
  cases ha:allB src.xs ts.length
  ·rw[ha] at hcl1 hR;have HR:Hid (false=R):=hR;clear hR;go_enter Tryz.func144,Tryz.ntmps144;go_wp2_with fail;refine (hcl1 _ (bQ2 _ _)).mono ?_;rintro e w2 ⟨rfl,hb2⟩;go_wp2;go_ret;exact⟨ret_bool HR.out,bQ1 (bQ2 _ _) hb2⟩
  ·have hcc:=fun x (h:Below w.heap.size w x)=>countColumns_any ao cap ts src.ad src.cap src.xs x (hx.below h) hc (hsrc.below h) h1 ha
   rw[ha] at hcl1 hR;clear ha hc;rw[Bool.true_and] at hR;have HR:Hid _:=hR;clear hR;generalize widthN ts src.xs=N at *;have hcl2:=hcl2 N;have hOF:=hOF N;generalize clausesB (wh.map ClauseV.cs) N=CB at *;generalize fitsB N group keys.xs sums.xs sel.xs=FB at *;clear hx hsrc hord hwh hkc hoc;go_enter Tryz.func144,Tryz.ntmps144;go_wp2_with fail;refine (hcl1 _ (bQ2 _ _)).mono ?_;clear hcl1;rintro e w2 ⟨rfl,hb2⟩;have hz:w.heap.size<w2.heap.size:=by have:=hb2.size; simp at this; omega
   have hcell:=bcell hb2;simp at hcell;have k2:=bQ1 (bQ2 _ _) hb2;go_wp2_with fail;refine (hcc _ k2).mono ?_;clear hcc;rintro e w3 ⟨rfl,rfl⟩;go_wp2_with fail;refine (hcl2 _ k2).mono ?_;clear hcl2;rintro e w4 ⟨rfl,hb4⟩;have k4:=bQ1 k2 hb4;have f0:w4.cell? (aD w.heap.size 0)=some (.slice src.ad src.xs.length src.cap):=cB hb4 (by rw[hcell _ _ (by omega)]; simp);have f1:w4.cell? (aD w.heap.size 1)=some (.slice wad wh.length wcap):=cB hb4 (by rw[hcell _ _ (by omega)]; simp);have f2:w4.cell? (aD w.heap.size 2)=some (.bool group):=cB hb4 (by rw[hcell _ _ (by omega)]; simp);have f3:w4.cell? (aD w.heap.size 3)=some (.slice keys.ad keys.xs.length keys.cap):=cB hb4 (by rw[hcell _ _ (by omega)]; simp);have f4:w4.cell? (aD w.heap.size 4)=some (.slice sums.ad sums.xs.length sums.cap):=cB hb4 (by rw[hcell _ _ (by omega)]; simp);have f5:w4.cell? (aD w.heap.size 5)=some (.slice sel.ad sel.xs.length sel.cap):=cB hb4 (by rw[hcell _ _ (by omega)]; simp);have f6:w4.cell? (aD w.heap.size 6)=some (.slice ord.ad ord.xs.length ord.cap):=cB hb4 (by rw[hcell _ _ (by omega)]; simp);clear hcell hb4 k2 hb2
   cases CB
   ·go_wp2;go_ret;exact⟨ret_bool HR.out,k4⟩
   ·go_wp2_with fail;refine (hOF _ k4).mono ?_;clear hOF;rintro e w5 ⟨rfl,hb5⟩;have k5:=bQ1 k4 hb5;have g0:=cB hb5 f0;have g1:=cB hb5 f1;have g2:=cB hb5 f2;have g3:=cB hb5 f3;have g4:=cB hb5 f4;have g5:=cB hb5 f5;have g6:=cB hb5 f6;clear f0 f1 f2 f3 f4 f5 f6 hb5 k4
    cases FB
    ·go_wp2;go_ret;exact⟨ret_bool HR.out,k5⟩
    ·go_wp2_with fail;generalize outN group keys.xs sums.xs sel.xs=O at *;generalize allB ord.xs O=AO at *;generalize apartB ord.xs=PO at *;refine wp_region_below (by kernel_rfl) (by kernel_rfl) ?_;go_big_quiet_want;refine⟨.pointer (some (aD w.heap.size 6)),fun x hx=>?_,?_⟩
     ·go_simp
     simp only[pA,sB,sC];go_big_quiet_on;go_big_quiet_want;refine⟨.slice ord.ad ord.xs.length ord.cap,fun x hx=>?_,?_⟩
     ·have e6:=cB hx g6;go_simp
     simp only[pA,sB,sC];go_big_quiet_on;go_big_quiet_want;refine⟨.agg #[.slice src.ad src.xs.length src.cap,.slice wad wh.length wcap,.bool group,.slice keys.ad keys.xs.length keys.cap,.slice sums.ad sums.xs.length sums.cap,.slice sel.ad sel.xs.length sel.cap,.slice ord.ad ord.xs.length ord.cap],fun x hx=>?_,?_⟩
     ·have e0:=cB hx g0;have e1:=cB hx g1;have e2:=cB hx g2;have e3:=cB hx g3;have e4:=cB hx g4;have e5:=cB hx g5;have e6:=cB hx g6;go_simp
     simp only[pA,sB,sC];go_big_quiet_on;go_big_quiet_want;refine⟨.int .i64 O,fun x hx=>?_,?_⟩
     ·have hC:=Calls.within hx (hOW x);go_simp
     simp only[pA,sB,sC];go_big_quiet_on;go_big_quiet_want;refine⟨.bool AO,fun x hx=>?_,?_⟩
     ·have hC:=Calls.within hx (hcl3 x (bQ1 k5 hx));go_simp
     simp only[pA,sB,sC];go_big_quiet_on;go_big_quiet_want;refine⟨.bool AO,fun x hx=>?_,?_⟩
     ·go_simp
     simp only[pA,sB,sC];go_big_quiet_on
     cases AO
     ·go_big_quiet_skip;go_big_quiet_skip;go_big_quiet_skip;go_big_quiet_want;refine⟨.bool false,fun x hx=>?_,?_⟩
      ·go_simp
      simp only[pA,sB,sC];go_big_quiet_on;go_big_quiet_want;refine⟨.bool false,fun x hx=>?_,?_⟩
      ·go_simp
      simp only[pA,sB,sC];go_big_quiet_on;refine wpQuiet_nil ?_;intro x hx;go_wp2;go_ret;exact⟨ret_bool HR.out,bQ1 k5 hx⟩
     ·go_big_quiet_want;refine⟨.pointer (some (aD w.heap.size 6)),fun x hx=>?_,?_⟩
      ·go_simp
      simp only[pA,sB,sC];go_big_quiet_on;go_big_quiet_want;refine⟨.slice ord.ad ord.xs.length ord.cap,fun x hx=>?_,?_⟩
      ·have e6:=cB hx g6;go_simp
      simp only[pA,sB,sC];go_big_quiet_on;go_big_quiet_want;refine⟨.bool PO,fun x hx=>?_,?_⟩
      ·have hC:=Calls.within_same hx (hcl4 x (bQ1 k5 hx));go_simp
      simp only[pA,sB,sC];go_big_quiet_on;go_big_quiet_want;refine⟨.bool PO,fun x hx=>?_,?_⟩
      ·go_simp
      simp only[pA,sB,sC];go_big_quiet_on;go_big_quiet_want;refine⟨.bool PO,fun x hx=>?_,?_⟩
      ·go_simp
      simp only[pA,sB,sC];go_big_quiet_on;refine wpQuiet_nil ?_;intro x hx;go_wp2;go_ret;exact⟨ret_bool HR.out,bQ1 k5 hx⟩
 ·have h0':((src.xs.length:Int)==0)=true:=by rw[beq_iff_eq]; omega
  rw[decide_eq_false h0,Bool.false_and] at hR;have HR:Hid (false=R):=hR;clear hR;clear hOW hOF hcl1 hcl2 hcl3 hcl4;go_enter Tryz.func144,Tryz.ntmps144;go_wp2;go_ret;exact⟨ret_bool HR.out,bQ2 _ _⟩
theorem check_of_cat {q:QueryV} {ts:List TableD} (h:catB ts=false):(1:Int)=q.check ts:=QueryV.check_cat h
theorem check_of_query {q:QueryV} {ts:List TableD} (hc:catB ts=true) (hf:fullB q.src.xs q.whs q.keys.xs q.sums.xs q.sel.xs q.ord.xs=false) :
  q.check ts=if queryB ts q.src.xs q.whs q.group q.keys.xs q.sums.xs q.sel.xs q.ord.xs then 0 else 3:=check_query hc hf
theorem checkQ_any (ao:Option Addr) (cap:Nat) (ts:List TableD) (q:QueryV) (w:World) (hx:TablesAt w ao ts) (hq:q.At w) (hkc:q.keys.xs.length<=q.keys.cap) (hoc:q.ord.xs.length<=q.ord.cap) :
  Calls Tryz.prog 84 #[.slice ao ts.length cap,.agg q.cells] w fun e w'=>e=.returned (.int .i64 (q.check ts))/\Below w.heap.size w w':=by
 have hC1:=fun x (h:Below w.heap.size w x)=>isCatalogP_any ao cap ts x (hx.below h)
 have hC2:=fun x (h:Below w.heap.size w x)=>isFull_any q x (hq.wh.below h)
 have hC3:=fun (hc:catB ts=true) (hf:fullB q.src.xs q.whs q.keys.xs q.sums.xs q.sel.xs q.ord.xs=false) x (h:Below w.heap.size w x)=>isQuery_any ao cap ts q x (hx.below h) (hq.below h) hc hf hkc hoc
 have e1:=@check_of_cat q ts;have e2:=@QueryV.check_full q ts;have e3:=@check_of_query q ts;generalize q.check ts=R at *;generalize fullB q.src.xs q.whs q.keys.xs q.sums.xs q.sel.xs q.ord.xs=FB at *;generalize queryB ts q.src.xs q.whs q.group q.keys.xs q.sums.xs q.sel.xs q.ord.xs=QB at *;generalize catB ts=CB at *;obtain⟨src,wad,wcap,wh,group,keys,sums,sel,ord⟩:=q;clear hx hq hkc hoc;unfold QueryV.cells IntsV.val at *;simp only at *
 cases CB
 ·have HF:Hid ((1:Int)=R):=e1 rfl;clear hC2 hC3 e1 e2 e3;go_enter Tryz.func84,Tryz.ntmps84;go_wp2_with fail;refine (hC1 _ (bQ2 _ _)).mono ?_;clear hC1;rintro e w2 ⟨rfl,hb2⟩;go_wp2;go_ret;exact⟨ret_int HF.out,bQ1 (bQ2 _ _) hb2⟩
 ·cases FB
  ·have HC3:Hid _:=hC3 rfl rfl;clear hC3;have HF:Hid (R=if QB=true then 0 else 3):=e3 rfl rfl;clear e1 e2 e3;go_enter Tryz.func84,Tryz.ntmps84;go_wp2_with fail;refine (hC1 _ (bQ2 _ _)).mono ?_;clear hC1;rintro e w2 ⟨rfl,hb2⟩;have hz:w.heap.size<w2.heap.size:=by have:=hb2.size; simp at this; omega
   have hcell:=bcell hb2;simp at hcell;have k2:=bQ1 (bQ2 _ _) hb2;go_wp2_with fail;refine (hC2 _ k2).mono ?_;clear hC2;rintro e w3 ⟨rfl,hb3⟩;have hcell3:=bcell hb3;have k3:=bQ1 k2 hb3;go_wp2_with fail;refine (HC3.out _ k3).mono ?_;clear HC3;rintro e w4 ⟨rfl,hb4⟩
   cases QB
   ·have HF':Hid ((3:Int)=R):=HF.out.symm;go_wp2;go_ret;exact⟨ret_int HF'.out,bQ1 k3 hb4⟩
   ·have HF':Hid ((0:Int)=R):=HF.out.symm;go_wp2;go_ret;exact⟨ret_int HF'.out,bQ1 k3 hb4⟩
  ·have HF:Hid ((2:Int)=R):=e2 rfl rfl;clear hC3 e1 e2 e3;go_enter Tryz.func84,Tryz.ntmps84;go_wp2_with fail;refine (hC1 _ (bQ2 _ _)).mono ?_;clear hC1;rintro e w2 ⟨rfl,hb2⟩;have hz:w.heap.size<w2.heap.size:=by have:=hb2.size; simp at this; omega
   have hcell:=bcell hb2;simp at hcell;have k2:=bQ1 (bQ2 _ _) hb2;go_wp2_with fail;refine (hC2 _ k2).mono ?_;clear hC2;rintro e w3 ⟨rfl,hb3⟩;go_wp2;go_ret;exact⟨ret_int HF.out,bQ1 k2 hb3⟩
end Go.Proofs.YtlpbelhfpoilpaaGreatDoor
namespace Go.Scout
open Go.RowKit
theorem results_cell2 {fn:Func} {p u s:Tmp} {ty:TypeId} (h:fn.results=#[.cell p ty,.tmp u,.tmp s]) (tmps:Array Value) (P:Program) (w:World) :
  (results fn tmps).run P w=((asAddr (tmps.getD p undef)).run P w).andThen fun a w₁=>((loadVar ty a).run P w₁).andThen fun v w₂=>.ok (.tuple #[v,tmps.getD u undef,tmps.getD s undef]) w₂:=by
 simp only[results,h];simp[Sem.run_bind,Result.andThen]
theorem ret_cell2 {fn:Func} {p u s:Tmp} {ty:TypeId} (h:fn.results=#[.cell p ty,.tmp u,.tmp s]) {tmps:Array Value} {P:Program} {w:World} {B:Nat} {v x y:Value} (hp:tmps.getD p undef=.pointer (some (aD B 0))) (hu:tmps.getD u undef=x) (hs:tmps.getD s undef=y) (hl:(loadVar ty (aD B 0)).run P w=.ok v w) :
  (results fn tmps).run P w=.ok (.tuple #[v,x,y]) w:=by
 rw[results_cell2 h,hp,hu,hs];simp[go_sem] at hl ⊢;simp[hl]
def LookPost (CHK:Int) (LK:Option (List PartD)) (ts:List TableD) (q:QueryV) (w:World) (e:Ending) (w':World):Prop:=Below w.heap.size w w'/\((CHK≠0/\e=.returned (.tuple #[.agg #[.slice none 0 0,.slice none 0 0,.bool false,.slice none 0 0,.slice none 0 0,.slice none 0 0,.slice none 0 0,.slice none 0 0,.int .u64 0,.int .u64 0,.slice none 0 0,.slice none 0 0,.slice none 0 0],.slice none 0 0,.int .i64 CHK]))∨(CHK=0/\LK=none/\e=.returned (.tuple #[.agg #[.slice none 0 0,.slice none 0 0,.bool false,.slice none 0 0,.slice none 0 0,.slice none 0 0,.slice none 0 0,.slice none 0 0,.int .u64 0,.int .u64 0,.slice none 0 0,.slice none 0 0,.slice none 0 0],.slice none 0 0,.int .i64 5]))∨(CHK=0/\∃ ds,LK=some ds/\∃ (f:FactsV) (a:Option Addr) (c:Nat) (ps:List PartV),e=.returned (.tuple #[.agg (f.cells ts q),.slice a ps.length c,.int .i64 0])/\f.At ts q w'/\PartsAt w' a ps/\ps.map PartV.d=ds))
end Go.Scout
namespace Go.Proofs.YtlpbelhfpoilpaaGreatDoor
open Go.RowKit Go.Scout
theorem scoutLook_any (ao:Option Addr) (cap:Nat) (ts:List TableD) (q:QueryV) (po:Option Addr) (pc:Nat) (pl:List NodeV) (w:World) (hx:TablesAt w ao ts) (hq:q.At w) (hkc:q.keys.xs.length<=q.keys.cap) (hoc:q.ord.xs.length<=q.ord.cap) (hn:NodesAt w po pl) (hsh:ShapesAt w 0) (hcap:∀ i,i<pl.length->(pl.getD i nz).co.xs.length<=(pl.getD i nz).co.cap) :
  Calls Tryz.prog 41 #[.slice ao ts.length cap,.agg q.cells,.slice po pl.length pc] w (LookPost (q.check ts) (lookP ts q pl) ts q w):=by
 obtain⟨w1,hw1⟩:∃ x,w.alloc (.cells q.cells 26)=x:=⟨_,rfl⟩
 have hk1:Below w.heap.size w w1:=by rw[<- hw1]; exact bQ2 _ _
 have hg1:GB w1 w.heap.size 26 q.cells:=by rw[<- hw1]; exact bQ3 _ _
 obtain⟨w2,hw2⟩:∃ x,w1.alloc (.cells #[.slice none 0 0,.slice none 0 0,.bool false,.slice none 0 0,.slice none 0 0,.slice none 0 0,.slice none 0 0,.slice none 0 0,.int .u64 0,.int .u64 0,.slice none 0 0,.slice none 0 0,.slice none 0 0] 105)=x:=⟨_,rfl⟩
 have hk2:Below w1.heap.size w1 w2:=by rw[<- hw2]; exact bQ2 _ _
 have hg2:GB w2 w1.heap.size 105 #[.slice none 0 0,.slice none 0 0,.bool false,.slice none 0 0,.slice none 0 0,.slice none 0 0,.slice none 0 0,.slice none 0 0,.int .u64 0,.int .u64 0,.slice none 0 0,.slice none 0 0,.slice none 0 0]:=by rw[<- hw2]; exact bQ3 _ _
 have hc1:=hk2;have hc0:Below w.heap.size w w2:=bQ1 hk1 hc1;have gg1:GB w2 w.heap.size 26 q.cells:=hg1.of (hc1.block _ hg1.lt);have g1_0:w2.cell? (aD w.heap.size 0)=some (q.src.val):=gg1.cell 0;have g1_1:w2.cell? (aD w.heap.size 1)=some (.slice q.wad q.wh.length q.wcap):=gg1.cell 1;have g1_2:w2.cell? (aD w.heap.size 2)=some (.bool q.group):=gg1.cell 2;have g1_3:w2.cell? (aD w.heap.size 3)=some (q.keys.val):=gg1.cell 3;have g1_4:w2.cell? (aD w.heap.size 4)=some (q.sums.val):=gg1.cell 4;have g1_5:w2.cell? (aD w.heap.size 5)=some (q.sel.val):=gg1.cell 5;have g1_6:w2.cell? (aD w.heap.size 6)=some (q.ord.val):=gg1.cell 6;have gg2:=hg2;have hCH:=checkQ_any ao cap ts q w2 (hx.below hc0) (hq.below hc0) hkc hoc;obtain⟨CHK,hCHK⟩:∃ c,c=q.check ts:=⟨_,rfl⟩
 obtain⟨LK,hLK⟩:∃ c,c=lookP ts q pl:=⟨_,rfl⟩
 have HFO:Hid (CHK=0->∀ x,Below w.heap.size w x->Calls Tryz.prog 85 #[.slice ao ts.length cap,.agg q.cells] x fun e w'=>∃ f:FactsV,e=.returned (.agg (f.cells ts q))/\f.At ts q w'/\f.New x.heap.size/\Below x.heap.size x w'):=fun h0 x hb=>factsOf_any ao cap ts q x (hx.below hb) (hq.below hb) (chk_of (by rw[<- hCHK]; exact h0)).1.ok
 have HLO:Hid (CHK=0->∀ (f:FactsV) (x:World),Below w.heap.size w x->f.At ts q x->Calls Tryz.prog 86 #[.agg (f.cells ts q),.slice po pl.length pc] x (fun e w'=>Below x.heap.size x w'/\((∃ ds,LK=some ds/\∃ (ao:Option Addr) (cap:Nat) (ps:List PartV),e=.returned (.tuple #[.slice ao ps.length cap,.bool true])/\PartsAt w' ao ps/\ps.map PartV.d=ds/\(∀ a,ao=some a->x.heap.size<=a.block)/\∀ i,i<ps.length->(ps.getD i pvz).Ok w)∨(LK=none/\e=.returned (.tuple #[.slice none 0 0,.bool false]))))):=fun h0 f x hb hf=>by
  obtain⟨h1,_,h3,h4,_⟩:=chk_of (ts:=ts) (q:=q) (by rw[<- hCHK]; exact h0);rw[hLK];exact look_any f ts q po pc pl w x hb h1.ok hf hn (ShapesAt.below hb hsh) hcap h3 (by omega)
 rw[<- hCHK] at hCH ⊢;rw[<- hLK];have HC:Hid _:=hc0;have HQ0:Hid _:=hq;have HN:Hid _:=hn;have HW:Hid (w.heap.size<=w1.heap.size):=hk1.size;have HGR:Hid (GB w2 w1.heap.size 105 #[.slice none 0 0,.slice none 0 0,.bool false,.slice none 0 0,.slice none 0 0,.slice none 0 0,.slice none 0 0,.slice none 0 0,.int .u64 0,.int .u64 0,.slice none 0 0,.slice none 0 0,.slice none 0 0]):=gg2;clear hCHK hLK hx hq hkc hoc hn hsh hcap hk1 hk2 hg1 hg2 gg1 gg2 hc0 hc1;obtain⟨⟨sa,sc,src⟩,wad,wcap,wh,group,⟨ka,kc,keys⟩,⟨ua,uc,sums⟩,⟨ea,ec,sel⟩,⟨da,dc,ord⟩⟩:=q;have hQC:QueryV.cells ⟨⟨sa,sc,src⟩,wad,wcap,wh,group,⟨ka,kc,keys⟩,⟨ua,uc,sums⟩,⟨ea,ec,sel⟩,⟨da,dc,ord⟩⟩=#[.slice sa src.length sc,.slice wad wh.length wcap,.bool group,.slice ka keys.length kc,.slice ua sums.length uc,.slice ea sel.length ec,.slice da ord.length dc]:=rfl;rw[hQC] at hw1 hCH HFO ⊢;simp only[IntsV.val] at g1_0 g1_1 g1_2 g1_3 g1_4 g1_5 g1_6;clear hQC;go_enter Tryz.func41,Tryz.ntmps41;go_wp2_with fail;refine hCH.mono ?_;rintro e w3 ⟨rfl,hb3⟩;clear hCH hw1 hw2;by_cases hz:CHK=0
 ·subst hz;have hFO:=HFO.out (by trivial) w3 (bQ1 HC.out hb3);have d0:=cB hb3 g1_0;have d1:=cB hb3 g1_1;have d2:=cB hb3 g1_2;have d3:=cB hb3 g1_3;have d4:=cB hb3 g1_4;have d5:=cB hb3 g1_5;have d6:=cB hb3 g1_6;have HB3:Hid (Below w2.heap.size w2 w3):=hb3;clear hb3 g1_0 g1_1 g1_2 g1_3 g1_4 g1_5 g1_6 HFO;go_wp2_with fail;refine hFO.mono ?_;rintro e w4 ⟨f,rfl,hf,hnw,hb4⟩;clear hFO d0 d1 d2 d3 d4 d5 d6;have HB4:Hid (Below w2.heap.size w2 w4):=bQ1 HB3.out hb4;have HS34:Hid (w3.heap.size<=w4.heap.size):=hb4.size;have HF4:Hid (f.At ts ⟨⟨sa,sc,src⟩,wad,wcap,wh,group,⟨ka,kc,keys⟩,⟨ua,uc,sums⟩,⟨ea,ec,sel⟩,⟨da,dc,ord⟩⟩ w4):=hf;have HNW:Hid (f.New w3.heap.size):=hnw;have HR3:Hid (w1.heap.size<w3.heap.size):=Nat.lt_of_lt_of_le HGR.out.lt HB3.out.size;clear hnw;obtain⟨fca,fcl,fcc,S,C,fra,frl,frc,fna,fnl,fnc,fpa,fpl,fpc,hFC⟩:∃ (fca:Option Addr) (fcl fcc S C:Nat) (fra:Option Addr) (frl frc:Nat) (fna:Option Addr) (fnl fnc:Nat) (fpa:Option Addr) (fpl fpc:Nat),f.cells ts ⟨⟨sa,sc,src⟩,wad,wcap,wh,group,⟨ka,kc,keys⟩,⟨ua,uc,sums⟩,⟨ea,ec,sel⟩,⟨da,dc,ord⟩⟩=#[.slice sa src.length sc,.slice wad wh.length wcap,.bool group,.slice ka keys.length kc,.slice ua sums.length uc,.slice ea sel.length ec,.slice da ord.length dc,.slice fca fcl fcc,.int .u64 ((S:Nat):Int),.int .u64 ((C:Nat):Int),.slice fra frl frc,.slice fna fnl fnc,.slice fpa fpl fpc]:=⟨f.ca,_,f.cc,_,_,f.ra,_,f.rc,f.na,f.nl,f.nc,f.pa,f.pl,f.pc,rfl⟩
  obtain⟨w5,hw5⟩:∃ x,w4.alloc (.cells #[.slice sa src.length sc,.slice wad wh.length wcap,.bool group,.slice ka keys.length kc,.slice ua sums.length uc,.slice ea sel.length ec,.slice da ord.length dc,.slice fca fcl fcc,.int .u64 ((S:Nat):Int),.int .u64 ((C:Nat):Int),.slice fra frl frc,.slice fna fnl fnc,.slice fpa fpl fpc] 105)=x:=⟨_,rfl⟩
  have k5:Below w4.heap.size w4 w5:=by rw[<- hw5]; exact bQ2 _ _
  have g5:GB w5 w4.heap.size 105 #[.slice sa src.length sc,.slice wad wh.length wcap,.bool group,.slice ka keys.length kc,.slice ua sums.length uc,.slice ea sel.length ec,.slice da ord.length dc,.slice fca fcl fcc,.int .u64 ((S:Nat):Int),.int .u64 ((C:Nat):Int),.slice fra frl frc,.slice fna fnl fnc,.slice fpa fpl fpc]:=by rw[<- hw5]; exact bQ3 _ _
  have HB5:Hid (Below w2.heap.size w2 w5):=bQ1 HB4.out k5;have hLO:=HLO.out (by trivial) f w5 (bQ1 HC.out HB5.out) (HF4.out.below k5);rw[hFC] at hLO ⊢;have HFC:Hid _:=hFC;have HG5:Hid (GB w5 w4.heap.size 105 #[.slice sa src.length sc,.slice wad wh.length wcap,.bool group,.slice ka keys.length kc,.slice ua sums.length uc,.slice ea sel.length ec,.slice da ord.length dc,.slice fca fcl fcc,.int .u64 ((S:Nat):Int),.int .u64 ((C:Nat):Int),.slice fra frl frc,.slice fna fnl fnc,.slice fpa fpl fpc]):=g5;have HK5:Hid _:=k5;have p0:w5.cell? (aD w4.heap.size 0)=some (.slice sa src.length sc):=g5.cell 0;have p1:w5.cell? (aD w4.heap.size 1)=some (.slice wad wh.length wcap):=g5.cell 1;have p2:w5.cell? (aD w4.heap.size 2)=some (.bool group):=g5.cell 2;have p3:w5.cell? (aD w4.heap.size 3)=some (.slice ka keys.length kc):=g5.cell 3;have p4:w5.cell? (aD w4.heap.size 4)=some (.slice ua sums.length uc):=g5.cell 4;have p5:w5.cell? (aD w4.heap.size 5)=some (.slice ea sel.length ec):=g5.cell 5;have p6:w5.cell? (aD w4.heap.size 6)=some (.slice da ord.length dc):=g5.cell 6;have p7:w5.cell? (aD w4.heap.size 7)=some (.slice fca fcl fcc):=g5.cell 7;have p8:w5.cell? (aD w4.heap.size 8)=some (.int .u64 ((S:Nat):Int)):=g5.cell 8;have p9:w5.cell? (aD w4.heap.size 9)=some (.int .u64 ((C:Nat):Int)):=g5.cell 9;have p10:w5.cell? (aD w4.heap.size 10)=some (.slice fra frl frc):=g5.cell 10;have p11:w5.cell? (aD w4.heap.size 11)=some (.slice fna fnl fnc):=g5.cell 11;have p12:w5.cell? (aD w4.heap.size 12)=some (.slice fpa fpl fpc):=g5.cell 12;clear hb4 hf k5 g5 hFC HLO;go_wp2_with fail;refine hLO.mono ?_;rintro e w6 ⟨hb6,hres⟩;clear hLO hw5;have hb26:Below w2.heap.size w2 w6:=bQ1 HB5.out hb6;have q5:=cB hb6 p0;have g6:GB w6 w4.heap.size 105 #[.slice sa src.length sc,.slice wad wh.length wcap,.bool group,.slice ka keys.length kc,.slice ua sums.length uc,.slice ea sel.length ec,.slice da ord.length dc,.slice fca fcl fcc,.int .u64 ((S:Nat):Int),.int .u64 ((C:Nat):Int),.slice fra frl frc,.slice fna fnl fnc,.slice fpa fpl fpc]:=HG5.out.of (hb6.block _ HG5.out.lt)
  rcases hres with⟨ds,hds,a,c,ps,rfl,hPA,hpd,hbk,hoks⟩ | ⟨hds,rfl⟩
  ·skip;have gR:GB w6 w1.heap.size 105 #[.slice none 0 0,.slice none 0 0,.bool false,.slice none 0 0,.slice none 0 0,.slice none 0 0,.slice none 0 0,.slice none 0 0,.int .u64 0,.int .u64 0,.slice none 0 0,.slice none 0 0,.slice none 0 0]:=HGR.out.of (hb26.block _ HGR.out.lt);have HLV:Hid _:=loadFacts (World.put13_gb gR (.slice sa src.length sc) (.slice wad wh.length wcap) (.bool group) (.slice ka keys.length kc) (.slice ua sums.length uc) (.slice ea sel.length ec) (.slice da ord.length dc) (.slice fca fcl fcc) (.int .u64 ((S:Nat):Int)) (.int .u64 ((C:Nat):Int)) (.slice fra frl frc) (.slice fna fnl fnc) (.slice fpa fpl fpc));have hkR:=World.put13_kept w6 w1.heap.size (.slice sa src.length sc) (.slice wad wh.length wcap) (.bool group) (.slice ka keys.length kc) (.slice ua sums.length uc) (.slice ea sel.length ec) (.slice da ord.length dc) (.slice fca fcl fcc) (.int .u64 ((S:Nat):Int)) (.int .u64 ((C:Nat):Int)) (.slice fra frl frc) (.slice fna fnl fnc) (.slice fpa fpl fpc);have HBR:Below w.heap.size w (World.put13 w6 w1.heap.size (.slice sa src.length sc) (.slice wad wh.length wcap) (.bool group) (.slice ka keys.length kc) (.slice ua sums.length uc) (.slice ea sel.length ec) (.slice da ord.length dc) (.slice fca fcl fcc) (.int .u64 ((S:Nat):Int)) (.int .u64 ((C:Nat):Int)) (.slice fra frl frc) (.slice fna fnl fnc) (.slice fpa fpl fpc)):=(bQ1 HC.out hb26).trans (hkR.below (bQ1 HC.out hb26).size (fun b hb=>by have:=HW.out; omega));have x0:w6.cell? (aD w1.heap.size 0)=some (.slice none 0 0):=gR.cell 0;have y0:=gR.frozen 0;have x1:w6.cell? (aD w1.heap.size 1)=some (.slice none 0 0):=gR.cell 1;have y1:=gR.frozen 1;have x2:w6.cell? (aD w1.heap.size 2)=some (.bool false):=gR.cell 2;have y2:=gR.frozen 2;have x3:w6.cell? (aD w1.heap.size 3)=some (.slice none 0 0):=gR.cell 3;have y3:=gR.frozen 3;have x4:w6.cell? (aD w1.heap.size 4)=some (.slice none 0 0):=gR.cell 4;have y4:=gR.frozen 4;have x5:w6.cell? (aD w1.heap.size 5)=some (.slice none 0 0):=gR.cell 5;have y5:=gR.frozen 5;have x6:w6.cell? (aD w1.heap.size 6)=some (.slice none 0 0):=gR.cell 6
   have y6:=gR.frozen 6;have x7:w6.cell? (aD w1.heap.size 7)=some (.slice none 0 0):=gR.cell 7;have y7:=gR.frozen 7;have x8:w6.cell? (aD w1.heap.size 8)=some (.int .u64 0):=gR.cell 8;have y8:=gR.frozen 8;have x9:w6.cell? (aD w1.heap.size 9)=some (.int .u64 0):=gR.cell 9;have y9:=gR.frozen 9;have x10:w6.cell? (aD w1.heap.size 10)=some (.slice none 0 0):=gR.cell 10;have y10:=gR.frozen 10;have x11:w6.cell? (aD w1.heap.size 11)=some (.slice none 0 0):=gR.cell 11;have y11:=gR.frozen 11;have x12:w6.cell? (aD w1.heap.size 12)=some (.slice none 0 0):=gR.cell 12;have y12:=gR.frozen 12;have hF6:f.At ts ⟨⟨sa,sc,src⟩,wad,wcap,wh,group,⟨ka,kc,keys⟩,⟨ua,uc,sums⟩,⟨ea,ec,sel⟩,⟨da,dc,ord⟩⟩ (World.put13 w6 w1.heap.size (.slice sa src.length sc) (.slice wad wh.length wcap) (.bool group) (.slice ka keys.length kc) (.slice ua sums.length uc) (.slice ea sel.length ec) (.slice da ord.length dc) (.slice fca fcl fcc) (.int .u64 ((S:Nat):Int)) (.int .u64 ((C:Nat):Int)) (.slice fra frl frc) (.slice fna fnl fnc) (.slice fpa fpl fpc)):=(HF4.out.below (bQ1 HK5.out hb6)).but hkR HNW.out HR3.out (HQ0.out.below HBR);have h45:w3.heap.size<=w5.heap.size:=Nat.le_trans HS34.out HK5.out.size;have hP6:PartsAt (World.put13 w6 w1.heap.size (.slice sa src.length sc) (.slice wad wh.length wcap) (.bool group) (.slice ka keys.length kc) (.slice ua sums.length uc) (.slice ea sel.length ec) (.slice da ord.length dc) (.slice fca fcl fcc) (.int .u64 ((S:Nat):Int)) (.int .u64 ((C:Nat):Int)) (.slice fra frl frc) (.slice fna fnl fnc) (.slice fpa fpl fpc)) a ps:=hPA.but hkR (fun ad e=>by have:=hbk ad e; have:=HR3.out; omega) hoks HBR;have HEND:Hid (LookPost (0:Int) LK ts ⟨⟨sa,sc,src⟩,wad,wcap,wh,group,⟨ka,kc,keys⟩,⟨ua,uc,sums⟩,⟨ea,ec,sel⟩,⟨da,dc,ord⟩⟩ w (.returned (.tuple #[.agg #[.slice sa src.length sc,.slice wad wh.length wcap,.bool group,.slice ka keys.length kc,.slice ua sums.length uc,.slice ea sel.length ec,.slice da ord.length dc,.slice fca fcl fcc,.int .u64 ((S:Nat):Int),.int .u64 ((C:Nat):Int),.slice fra frl frc,.slice fna fnl fnc,.slice fpa fpl fpc],.slice a ps.length c,.int .i64 0])) (World.put13 w6 w1.heap.size (.slice sa src.length sc) (.slice wad wh.length wcap) (.bool group) (.slice ka keys.length kc) (.slice ua sums.length uc) (.slice ea sel.length ec) (.slice da ord.length dc) (.slice fca fcl fcc) (.int .u64 ((S:Nat):Int)) (.int .u64 ((C:Nat):Int)) (.slice fra frl frc) (.slice fna fnl fnc) (.slice fpa fpl fpc))):=⟨HBR,.inr (.inr ⟨rfl,ds,hds,f,a,c,ps,by rw[HFC.out],hF6,hP6,hpd⟩)⟩
   unfold World.put13 at HLV HEND;have r0:w6.cell? (aD w4.heap.size 0)=some (.slice sa src.length sc):=g6.cell 0;have r1:w6.cell? (aD w4.heap.size 1)=some (.slice wad wh.length wcap):=g6.cell 1;have r2:w6.cell? (aD w4.heap.size 2)=some (.bool group):=g6.cell 2;have r3:w6.cell? (aD w4.heap.size 3)=some (.slice ka keys.length kc):=g6.cell 3;have r4:w6.cell? (aD w4.heap.size 4)=some (.slice ua sums.length uc):=g6.cell 4;have r5:w6.cell? (aD w4.heap.size 5)=some (.slice ea sel.length ec):=g6.cell 5;have r6:w6.cell? (aD w4.heap.size 6)=some (.slice da ord.length dc):=g6.cell 6;have r7:w6.cell? (aD w4.heap.size 7)=some (.slice fca fcl fcc):=g6.cell 7;have r8:w6.cell? (aD w4.heap.size 8)=some (.int .u64 ((S:Nat):Int)):=g6.cell 8;have r9:w6.cell? (aD w4.heap.size 9)=some (.int .u64 ((C:Nat):Int)):=g6.cell 9;have r10:w6.cell? (aD w4.heap.size 10)=some (.slice fra frl frc):=g6.cell 10;have r11:w6.cell? (aD w4.heap.size 11)=some (.slice fna fnl fnc):=g6.cell 11;have r12:w6.cell? (aD w4.heap.size 12)=some (.slice fpa fpl fpc):=g6.cell 12;clear gR hkR HBR hb26 hb6 g6 q5 HG5 HF4 hF6 hP6 hPA hbk hoks hds hpd;go_wp2;exact bodyPost_ret (ret_cell2 (p:=6) (u:=7) (s:=8) rfl rfl rfl rfl HLV.out) rfl HEND.out
  ·skip;have gR:GB w6 w1.heap.size 105 #[.slice none 0 0,.slice none 0 0,.bool false,.slice none 0 0,.slice none 0 0,.slice none 0 0,.slice none 0 0,.slice none 0 0,.int .u64 0,.int .u64 0,.slice none 0 0,.slice none 0 0,.slice none 0 0]:=HGR.out.of (hb26.block _ HGR.out.lt);have HLV:Hid _:=loadFacts (World.put13_gb gR (.slice none 0 0) (.slice none 0 0) (.bool false) (.slice none 0 0) (.slice none 0 0) (.slice none 0 0) (.slice none 0 0) (.slice none 0 0) (.int .u64 0) (.int .u64 0) (.slice none 0 0) (.slice none 0 0) (.slice none 0 0));have hkR:=World.put13_kept w6 w1.heap.size (.slice none 0 0) (.slice none 0 0) (.bool false) (.slice none 0 0) (.slice none 0 0) (.slice none 0 0) (.slice none 0 0) (.slice none 0 0) (.int .u64 0) (.int .u64 0) (.slice none 0 0) (.slice none 0 0) (.slice none 0 0);have HBR:Below w.heap.size w (World.put13 w6 w1.heap.size (.slice none 0 0) (.slice none 0 0) (.bool false) (.slice none 0 0) (.slice none 0 0) (.slice none 0 0) (.slice none 0 0) (.slice none 0 0) (.int .u64 0) (.int .u64 0) (.slice none 0 0) (.slice none 0 0) (.slice none 0 0)):=(bQ1 HC.out hb26).trans (hkR.below (bQ1 HC.out hb26).size (fun b hb=>by have:=HW.out; omega));have x0:w6.cell? (aD w1.heap.size 0)=some (.slice none 0 0):=gR.cell 0;have y0:=gR.frozen 0;have x1:w6.cell? (aD w1.heap.size 1)=some (.slice none 0 0):=gR.cell 1;have y1:=gR.frozen 1;have x2:w6.cell? (aD w1.heap.size 2)=some (.bool false):=gR.cell 2;have y2:=gR.frozen 2;have x3:w6.cell? (aD w1.heap.size 3)=some (.slice none 0 0):=gR.cell 3;have y3:=gR.frozen 3;have x4:w6.cell? (aD w1.heap.size 4)=some (.slice none 0 0):=gR.cell 4;have y4:=gR.frozen 4;have x5:w6.cell? (aD w1.heap.size 5)=some (.slice none 0 0):=gR.cell 5;have y5:=gR.frozen 5;have x6:w6.cell? (aD w1.heap.size 6)=some (.slice none 0 0):=gR.cell 6;have y6:=gR.frozen 6;have x7:w6.cell? (aD w1.heap.size 7)=some (.slice none 0 0):=gR.cell 7;have y7:=gR.frozen 7;have x8:w6.cell? (aD w1.heap.size 8)=some (.int .u64 0):=gR.cell 8;have y8:=gR.frozen 8
   have x9:w6.cell? (aD w1.heap.size 9)=some (.int .u64 0):=gR.cell 9;have y9:=gR.frozen 9;have x10:w6.cell? (aD w1.heap.size 10)=some (.slice none 0 0):=gR.cell 10;have y10:=gR.frozen 10;have x11:w6.cell? (aD w1.heap.size 11)=some (.slice none 0 0):=gR.cell 11;have y11:=gR.frozen 11;have x12:w6.cell? (aD w1.heap.size 12)=some (.slice none 0 0):=gR.cell 12;have y12:=gR.frozen 12;have HEND:Hid (LookPost (0:Int) LK ts ⟨⟨sa,sc,src⟩,wad,wcap,wh,group,⟨ka,kc,keys⟩,⟨ua,uc,sums⟩,⟨ea,ec,sel⟩,⟨da,dc,ord⟩⟩ w (.returned (.tuple #[.agg #[.slice none 0 0,.slice none 0 0,.bool false,.slice none 0 0,.slice none 0 0,.slice none 0 0,.slice none 0 0,.slice none 0 0,.int .u64 0,.int .u64 0,.slice none 0 0,.slice none 0 0,.slice none 0 0],.slice none 0 0,.int .i64 5])) (World.put13 w6 w1.heap.size (.slice none 0 0) (.slice none 0 0) (.bool false) (.slice none 0 0) (.slice none 0 0) (.slice none 0 0) (.slice none 0 0) (.slice none 0 0) (.int .u64 0) (.int .u64 0) (.slice none 0 0) (.slice none 0 0) (.slice none 0 0))):=⟨HBR,.inr (.inl ⟨rfl,hds,rfl⟩)⟩
   unfold World.put13 at HLV HEND;clear gR hkR HBR hb26 hb6 g6 q5 HG5 HF4;go_wp2;exact bodyPost_ret (ret_cell2 (p:=6) (u:=7) (s:=8) rfl rfl rfl rfl HLV.out) rfl HEND.out
 ·have hb23:Below w2.heap.size w2 w3:=hb3;have hzb:(CHK != 0)=true:=by rw[bne_iff_ne]; exact hz
  have HZ:Hid _:=hz;clear hz;have gR:GB w3 w1.heap.size 105 #[.slice none 0 0,.slice none 0 0,.bool false,.slice none 0 0,.slice none 0 0,.slice none 0 0,.slice none 0 0,.slice none 0 0,.int .u64 0,.int .u64 0,.slice none 0 0,.slice none 0 0,.slice none 0 0]:=HGR.out.of (hb23.block _ HGR.out.lt);have HLV:Hid _:=loadFacts (World.put13_gb gR (.slice none 0 0) (.slice none 0 0) (.bool false) (.slice none 0 0) (.slice none 0 0) (.slice none 0 0) (.slice none 0 0) (.slice none 0 0) (.int .u64 0) (.int .u64 0) (.slice none 0 0) (.slice none 0 0) (.slice none 0 0));have hkR:=World.put13_kept w3 w1.heap.size (.slice none 0 0) (.slice none 0 0) (.bool false) (.slice none 0 0) (.slice none 0 0) (.slice none 0 0) (.slice none 0 0) (.slice none 0 0) (.int .u64 0) (.int .u64 0) (.slice none 0 0) (.slice none 0 0) (.slice none 0 0);have HBR:Below w.heap.size w (World.put13 w3 w1.heap.size (.slice none 0 0) (.slice none 0 0) (.bool false) (.slice none 0 0) (.slice none 0 0) (.slice none 0 0) (.slice none 0 0) (.slice none 0 0) (.int .u64 0) (.int .u64 0) (.slice none 0 0) (.slice none 0 0) (.slice none 0 0)):=(bQ1 HC.out hb23).trans (hkR.below (bQ1 HC.out hb23).size (fun b hb=>by have:=HW.out; omega));have x0:w3.cell? (aD w1.heap.size 0)=some (.slice none 0 0):=gR.cell 0;have y0:=gR.frozen 0;have x1:w3.cell? (aD w1.heap.size 1)=some (.slice none 0 0):=gR.cell 1;have y1:=gR.frozen 1;have x2:w3.cell? (aD w1.heap.size 2)=some (.bool false):=gR.cell 2;have y2:=gR.frozen 2;have x3:w3.cell? (aD w1.heap.size 3)=some (.slice none 0 0):=gR.cell 3;have y3:=gR.frozen 3;have x4:w3.cell? (aD w1.heap.size 4)=some (.slice none 0 0):=gR.cell 4;have y4:=gR.frozen 4;have x5:w3.cell? (aD w1.heap.size 5)=some (.slice none 0 0):=gR.cell 5;have y5:=gR.frozen 5;have x6:w3.cell? (aD w1.heap.size 6)=some (.slice none 0 0):=gR.cell 6;have y6:=gR.frozen 6;have x7:w3.cell? (aD w1.heap.size 7)=some (.slice none 0 0):=gR.cell 7;have y7:=gR.frozen 7;have x8:w3.cell? (aD w1.heap.size 8)=some (.int .u64 0):=gR.cell 8
  have y8:=gR.frozen 8;have x9:w3.cell? (aD w1.heap.size 9)=some (.int .u64 0):=gR.cell 9;have y9:=gR.frozen 9;have x10:w3.cell? (aD w1.heap.size 10)=some (.slice none 0 0):=gR.cell 10;have y10:=gR.frozen 10;have x11:w3.cell? (aD w1.heap.size 11)=some (.slice none 0 0):=gR.cell 11;have y11:=gR.frozen 11;have x12:w3.cell? (aD w1.heap.size 12)=some (.slice none 0 0):=gR.cell 12;have y12:=gR.frozen 12;have HEND:Hid (LookPost CHK LK ts ⟨⟨sa,sc,src⟩,wad,wcap,wh,group,⟨ka,kc,keys⟩,⟨ua,uc,sums⟩,⟨ea,ec,sel⟩,⟨da,dc,ord⟩⟩ w (.returned (.tuple #[.agg #[.slice none 0 0,.slice none 0 0,.bool false,.slice none 0 0,.slice none 0 0,.slice none 0 0,.slice none 0 0,.slice none 0 0,.int .u64 0,.int .u64 0,.slice none 0 0,.slice none 0 0,.slice none 0 0],.slice none 0 0,.int .i64 CHK])) (World.put13 w3 w1.heap.size (.slice none 0 0) (.slice none 0 0) (.bool false) (.slice none 0 0) (.slice none 0 0) (.slice none 0 0) (.slice none 0 0) (.slice none 0 0) (.int .u64 0) (.int .u64 0) (.slice none 0 0) (.slice none 0 0) (.slice none 0 0))):=⟨HBR,.inl ⟨HZ.out,rfl⟩⟩
  unfold World.put13 at HLV HEND;clear gR hkR HBR hb23 hb3 HFO HLO;go_wp2;exact bodyPost_ret (ret_cell2 (p:=6) (u:=7) (s:=8) rfl rfl rfl rfl HLV.out) rfl HEND.out
end Go.Proofs.YtlpbelhfpoilpaaGreatDoor
