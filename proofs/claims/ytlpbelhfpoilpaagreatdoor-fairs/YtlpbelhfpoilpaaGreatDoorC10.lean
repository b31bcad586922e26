import Derived.Test.YtlpbelhfpoilpaaGreatDoorProg
import Derived.Deep.QuietTactic
import Derived.BigQuiet
import Derived.Test.YtlpbelhfpoilpaaGreatDoorC01
import Derived.Test.YtlpbelhfpoilpaaGreatDoorC04
set_option linter.all false
set_option maxRecDepth 100000
set_option maxHeartbeats 16000000
namespace Go.Scout
open Go.RowKit
theorem ret_u64 {a b:Nat} (h:a=b):Ending.returned (.int .u64 (a:Int))=.returned (.int .u64 (b:Int)):=by rw[h]
theorem wrap_u64_nat {n:Nat} (h:n<=topN):IntKind.u64.wrap (n:Int)=n:=by
 unfold topN at h;rw[IntKind.wrap_u64];omega
theorem bitsN_bd:∀ (k v:Nat),v<2 ^ k->bitsN v<=k
 | 0,v,h => by
  have:v=0:=by simpa using h
  rw[this,bitsN_zero];exact Nat.le_refl _
 | k+1,v,h => by
  by_cases h0:0<v
  ·rw[bitsN_pos h0];have:=bitsN_bd k (v / 2) (by rw[Nat.pow_succ] at h; omega);omega
  ·have:v=0:=by omega
   rw[this,bitsN_zero];omega
theorem bitsN_le {v:Nat} (h:v<=18446744073709551615):bitsN v<=64:=bitsN_bd 64 v (by omega)
end Go.Scout
namespace Go.Proofs.YtlpbelhfpoilpaaGreatDoor
open Go.RowKit Go.Scout
theorem plus_any (a b:Nat) (ha:a<=topN) (hb:b<=topN) (w:World):Calls Tryz.prog 158 #[.int .u64 a,.int .u64 b] w fun e w'=>e=.returned (.int .u64 (plusN a b:Nat))/\w' = w:=by
 have HE:Hid (plusN a b=if a > topN-b then topN else a+b):=plusN_if hb;unfold topN at ha hb;by_cases h:a > 18446744073709551615-b
 ·go_enter Tryz.func158,Tryz.ntmps158;go_wp2;go_ret;refine⟨ret_u64 (a:=18446744073709551615) ?_,rfl⟩;rw[HE.out,if_pos (by unfold topN; omega)];rfl
 ·go_enter Tryz.func158,Tryz.ntmps158;go_wp2;go_ret;refine⟨?_,rfl⟩;rw[HE.out,if_neg (by unfold topN; omega)];rfl
theorem times_any (a b:Nat) (ha:a<=topN) (hb:b<=topN) (w:World):Calls Tryz.prog 156 #[.int .u64 a,.int .u64 b] w fun e w'=>e=.returned (.int .u64 (timesN a b:Nat))/\w' = w:=by
 by_cases h0:a=0
 ·subst h0;rw[timesN_zero];go_enter Tryz.func156,Tryz.ntmps156;go_wp2;go_ret;exact⟨rfl,rfl⟩
 have HE:Hid (timesN a b=if b > topN / a then topN else a*b):=timesN_if h0;unfold topN at ha hb;have hp:0<a:=Nat.pos_of_ne_zero h0;have hd:18446744073709551615 / a<=18446744073709551615:=Nat.div_le_self _ _;have hq:((18446744073709551615:Int)).tdiv (a:Int)=((18446744073709551615 / a:Nat):Int):=by
  rw[Int.tdiv_eq_ediv_of_nonneg (by omega),Int.natCast_ediv];rfl
 by_cases h:b > 18446744073709551615 / a
 ·have HE2:Hid (timesN a b=topN):=by
   show timesN a b=topN
   rw[HE.out,if_pos (by unfold topN; exact h)]
  clear HE;generalize 18446744073709551615 / a=d at *;go_enter Tryz.func156,Tryz.ntmps156;go_wp2;go_ret;refine⟨ret_u64 (a:=18446744073709551615) ?_,rfl⟩;rw[HE2.out];rfl
 ·have HE2:Hid (timesN a b=a*b):=by
   show timesN a b=a*b
   rw[HE.out,if_neg (by unfold topN; exact h)]
  have hm:a*b<=18446744073709551615:=by
   have:=timesN_le a b;rw[HE2.out] at this;exact this
  have hw:IntKind.u64.wrap ((a:Int)*(b:Int))=((a*b:Nat):Int):=by
   have:=wrap_u64_nat (n:=a*b) hm;rw[Int.natCast_mul] at this;rw[this,Int.natCast_mul]
  clear HE hm;generalize 18446744073709551615 / a=d at *;go_enter Tryz.func156,Tryz.ntmps156;go_wp2;go_ret;refine⟨?_,rfl⟩;rw[HE2.out,Int.natCast_mul];rfl
theorem bits_any (a:Nat) (ha:a<=topN) (w:World):Calls Tryz.prog 159 #[.int .u64 a] w fun e w'=>e=.returned (.int .u64 (bitsN a:Nat))/\w' = w:=by
 unfold topN at ha;have HB:Hid (bitsN a<=64):=bitsN_le ha;go_enter Tryz.func159,Tryz.ntmps159;go_wp2;go_loop [0,3] (fun v n=>∃ x k:Nat,v=.int .u64 x/\n=.int .u64 k/\x<=18446744073709551615/\k+bitsN x=bitsN a) (fun v _=>(intOf v).toNat)
 case atStart=>exact⟨a,0,rfl,rfl,ha,Nat.zero_add _⟩
 case round=>
  obtain⟨x,k,rfl,rfl,hx,hk⟩:=hrel;have hb:=HB.out;have HK:Hid _:=hk;by_cases h0:0<x
  ·have hq:((x:Int)).tdiv 2=((x / 2:Nat):Int):=by
    rw[Int.tdiv_eq_ediv_of_nonneg (by omega),Int.natCast_ediv];rfl
   have hd:x / 2<=18446744073709551615:=by omega
   have hlt:x / 2<x:=by omega
   have hk2:k+1<=64:=by rw[bitsN_pos h0] at hk; omega
   have HN:Hid (k+1+bitsN (x / 2)=bitsN a):=by
    show _=_
    rw[bitsN_pos h0] at hk;omega
   clear hk hb;generalize x / 2=y at *;go_wp2;go_round
   case rel=>exact⟨y,k+1,rfl,rfl,hd,HN.out⟩
   case measure=>simp[intOf]; omega
  ·obtain rfl:x=0:=by omega
   rw[bitsN_zero,Nat.add_zero] at hk;clear hb;have hk2:k<=64:=by have:=HB.out; omega
   have HN:Hid _:=hk;clear hk;go_wp2;go_ret;exact⟨ret_u64 HN.out,rfl⟩
theorem all_any (ao:Option Addr) (cap:Nat) (xs:List Int) (n:Int) (w:World) (hx:IntsAt w ao xs) :
  Calls Tryz.prog 88 #[.slice ao xs.length cap,.int .i64 n] w fun e w'=>e=.returned (.bool (allB xs n))/\w' = w:=by
 have hl:=hx.1;go_enter Tryz.func88,Tryz.ntmps88;go_wp2;go_loop [5] (fun i=>∃ k:Nat,k<=xs.length/\i=.int .i64 k/\Hid (allB (xs.take k) n=true)) (fun i=>xs.length-(intOf i).toNat)
 case atStart=>exact⟨0,Nat.zero_le _,rfl,rfl⟩
 case round=>
  obtain⟨k,hk,rfl,HP⟩:=hrel;by_cases hlt:k<xs.length
  ·obtain⟨b,off,rfl,hc⟩:=hx.get hlt;have hck:=hc k hlt;clear hc hx;by_cases h1:xs[k]<0
   ·go_wp2;go_ret;exact⟨ret_bool (allB_bad xs n k hlt (by omega)).symm,rfl⟩
   ·by_cases h2:xs[k]<n
    ·go_wp2;go_round
     case rel=>exact⟨k+1,by omega,by go_num,allB_step hlt HP.out h1 h2⟩
     case measure=>simp[intOf]; omega
    ·go_wp2;go_ret;exact⟨ret_bool (allB_bad xs n k hlt (by omega)).symm,rfl⟩
  ·go_wp2;go_ret;exact⟨ret_bool (allB_whole hk hlt HP.out),rfl⟩
theorem apart_any (ao:Option Addr) (cap:Nat) (xs:List Int) (w:World) (hx:IntsAt w ao xs) :
  Calls Tryz.prog 92 #[.slice ao xs.length cap] w fun e w'=>e=.returned (.bool (apartB xs))/\∃ n,w' = w.drewN n:=by
 have hl:=hx.1;go_enter Tryz.func92,Tryz.ntmps92;go_wp2;go_loopw [3] (fun i wr=>∃ k:Nat,k<=xs.length/\i=.int .i64 k/\Hid (∀ i,i<k->∀ j,j<i->xs.getD i 0≠xs.getD j 0)/\∃ n,wr=w.drewN n) (fun i _=>xs.length-(intOf i).toNat)
 case atStart=>exact⟨0,Nat.zero_le _,rfl,fun i hi=>absurd hi (by omega),0,rfl⟩
 case round=>
  obtain⟨k,hk,rfl,HP,n,rfl⟩:=hrel;by_cases hlt:k<xs.length
  ·obtain⟨b,off,rfl,hc⟩:=hx.get hlt;have hck:=hc k hlt;have HC:Hid (∀ j,j<xs.length->w.cell? (aD b (off+j))=some (.int .i64 (xs.getD j 0))):=hc;clear hc hx;go_wp2;go_loopw [4] (fun i wr=>∃ m:Nat,m<=k/\i=.int .i64 m/\Hid (∀ j,j<m->xs.getD k 0≠xs.getD j 0)/\∃ n,wr=w.drewN n) (fun i _=>k-(intOf i).toNat)
   case atStart=>exact⟨0,Nat.zero_le _,rfl,fun j hj=>absurd hj (by omega),n,rfl⟩
   case round=>
    obtain⟨m,hm,rfl,HM,n',rfl⟩:=hrel;by_cases hml:m<k
    ·have hmm:m<xs.length:=by omega
     have hcm:=HC.out m hmm;by_cases he:xs[k]=xs[m]
     ·have he':(xs[k]==xs[m])=true:=by simpa using he
      have HE:Hid (xs[k]=xs[m]):=he;clear he;go_wp2;go_quiet (fail);go_wp2;go_ret;exact⟨ret_bool (apartB_bad hlt hml (by simpa [hlt,hmm] using HE.out)),_,World.drewN_drewN _ _ _⟩
     ·have he':(xs[k]==xs[m])=false:=by simpa using he
      have HE:Hid (¬ xs[k]=xs[m]):=he;clear he;go_wp2;go_quiet (fail);go_wp2;go_roundw
      case rel=>
       refine⟨m+1,by omega,by go_num,fun j hj=>?_,_,rfl⟩;by_cases hjm:j=m
       ·subst hjm; simpa [hlt,hmm] using HE.out
       ·exact HM.out j (by omega)
      case measure=>simp[intOf]; omega
    ·go_wp2;go_roundw
     case rel=>
      refine⟨k+1,by omega,by go_num,fun i hi=>?_,_,rfl⟩;by_cases hik:i=k
      ·subst hik; exact fun j hj=>HM.out j (by omega)
      ·exact HP.out i (by omega)
     case measure=>simp[intOf]; omega
  ·go_wp2;go_ret;have hkk:k=xs.length:=by omega
   subst hkk;exact⟨ret_bool (apartB_good HP.out),_,rfl⟩
theorem from_any (lo v hi:Int) (w:World) :
  Calls Tryz.prog 155 #[.int .i64 lo,.int .i64 v,.int .i64 hi] w fun e w'=>e=.returned (.bool (decide (lo<=v)&&decide (v<=hi)))/\w' = w:=by
 by_cases h1:lo<=v
 ·by_cases h2:v<=hi
  ·go_enter Tryz.func155,Tryz.ntmps155;go_wp2;go_ret;exact⟨ret_bool (by simp; omega),rfl⟩
  ·go_enter Tryz.func155,Tryz.ntmps155;go_wp2;go_ret;exact⟨ret_bool (by simp; omega),rfl⟩
 ·go_enter Tryz.func155,Tryz.ntmps155;go_wp2;go_ret;exact⟨ret_bool (by simp; omega),rfl⟩
theorem condB_bad {c:CondD} {n:Int} (h:c.left<0∨n<=c.left∨c.op<0∨2<c.op):false=condB c n:=by
 unfold condB;symm;rw[Bool.and_eq_false_iff];left;simp;omega
theorem condB_nil {c:CondD} {n:Int} (h:¬ (c.left<0∨n<=c.left∨c.op<0∨2<c.op)) (h2:c.op=2):(!c.const&&decide (c.right=0))=condB c n:=by
 unfold condB;rw[if_pos h2];have:(decide (0<=c.left)&&decide (c.left<n)&&decide (0<=c.op)&&decide (c.op<=2))=true:=by simp; omega
 rw[this,Bool.true_and]
theorem condB_const {c:CondD} {n:Int} (h:¬ (c.left<0∨n<=c.left∨c.op<0∨2<c.op)) (h2:¬ c.op=2) (h3:c.const=true):(decide (-1000<=c.right)&&decide (c.right<=1000))=condB c n:=by
 unfold condB;rw[if_neg h2,if_pos h3];have:(decide (0<=c.left)&&decide (c.left<n)&&decide (0<=c.op)&&decide (c.op<=2))=true:=by simp; omega
 rw[this,Bool.true_and]
theorem condB_cols {c:CondD} {n:Int} (h:¬ (c.left<0∨n<=c.left∨c.op<0∨2<c.op)) (h2:¬ c.op=2) (h3:c.const=false):(decide (0<=c.right)&&decide (c.right<=n-1))=condB c n:=by
 unfold condB;rw[if_neg h2,if_neg (by simp[h3])];have:(decide (0<=c.left)&&decide (c.left<n)&&decide (0<=c.op)&&decide (c.op<=2))=true:=by simp; omega
 rw[this,Bool.true_and]
theorem isCond_any (c:CondD) (n:Int) (w:World) (hn:0<=n) (hn2:n<=1000) :
  Calls Tryz.prog 90 #[c.val,.int .i64 n] w fun e w'=>e=.returned (.bool (condB c n))/\Below w.heap.size w w':=by
 have hbad:=@condB_bad c n;have hnil:=@condB_nil c n;have hconst:=@condB_const c n;have hcols:=@condB_cols c n;obtain⟨nt,op,left,const,right⟩:=c;unfold CondD.val;simp only at hbad hnil hconst hcols;generalize condB ⟨nt,op,left,const,right⟩ n=B at *;by_cases h1:left<0∨n<=left∨op<0∨2<op
 ·have HB:Hid (false=B):=hbad h1;clear hbad hnil hconst hcols;go_enter Tryz.func90,Tryz.ntmps90;go_wp2
  all_goals
   go_ret;exact⟨ret_bool HB.out,(Below.refl _ _).alloc (Nat.le_refl _) _⟩
 ·have l1:0<=left:=by omega
  have l2:left<n:=by omega
  have l3:0<=op:=by omega
  have l4:op<=2:=by omega
  by_cases h2:op=2
  ·have HB:Hid ((!const&&decide (right=0))=B):=hnil h1 h2;clear hbad hnil hconst hcols h1;subst h2
   cases const
   ·by_cases h3:right=0
    ·subst h3;go_enter Tryz.func90,Tryz.ntmps90;go_wp2;go_ret;exact⟨ret_bool HB.out,(Below.refl _ _).alloc (Nat.le_refl _) _⟩
    ·have h3':(right==0)=false:=by simpa using h3
     have HB':Hid (false=B):=show false=B by have:=HB.out; simpa [h3] using this
     clear HB;go_enter Tryz.func90,Tryz.ntmps90;go_wp2;go_ret;exact⟨ret_bool HB'.out,(Below.refl _ _).alloc (Nat.le_refl _) _⟩
   ·go_enter Tryz.func90,Tryz.ntmps90;go_wp2;go_ret;exact⟨ret_bool HB.out,(Below.refl _ _).alloc (Nat.le_refl _) _⟩
  ·have h2':(op==2)=false:=by simpa using h2
   cases const
   ·have HB:Hid ((decide (0<=right)&&decide (right<=n-1))=B):=hcols h1 h2 rfl;clear hbad hnil hconst hcols h1 h2;go_enter Tryz.func90,Tryz.ntmps90;go_wp2_with (go_at_call 155; refine (from_any _ _ _ _).mono ?_; rintro e w' ⟨rfl,rfl⟩);go_ret;exact⟨ret_bool HB.out,(Below.refl _ _).alloc (Nat.le_refl _) _⟩
   ·have HB:Hid ((decide (-1000<=right)&&decide (right<=1000))=B):=hconst h1 h2 rfl;clear hbad hnil hconst hcols h1 h2;go_enter Tryz.func90,Tryz.ntmps90;go_wp2_with (go_at_call 155; refine (from_any _ _ _ _).mono ?_; rintro e w' ⟨rfl,rfl⟩);go_ret;exact⟨ret_bool HB.out,(Below.refl _ _).alloc (Nat.le_refl _) _⟩
theorem out_any (q:QueryV) (w:World) (h1:q.keys.xs.length<=1000) (h2:q.sums.xs.length<=1000) :
  Calls Tryz.prog 91 #[.agg q.cells] w fun e w'=>e=.returned (.int .i64 (outN q.group q.keys.xs q.sums.xs q.sel.xs))/\Below w.heap.size w w':=by
 obtain⟨src,wad,wcap,wh,group,keys,sums,sel,ord⟩:=q;simp only at h1 h2;unfold QueryV.cells IntsV.val
 cases group
 ·go_enter Tryz.func91,Tryz.ntmps91;go_wp2;go_ret;exact⟨ret_int rfl,(Below.refl _ _).alloc (Nat.le_refl _) _⟩
 ·go_enter Tryz.func91,Tryz.ntmps91;go_wp2;go_ret;exact⟨ret_int rfl,(Below.refl _ _).alloc (Nat.le_refl _) _⟩
theorem isCatalog_any (ao:Option Addr) (cap:Nat) (ts:List TableD) (w:World) (hx:TablesAt w ao ts) :
  Calls Tryz.prog 87 #[.slice ao ts.length cap] w fun e w'=>e=.returned (.bool (catB ts))/\Below w.heap.size w w':=by
 have hl:=hx.1;by_cases h0:ts.length<1
 ·go_enter Tryz.func87,Tryz.ntmps87;go_wp2;go_ret;exact⟨ret_bool (catB_short h0),Below.refl _ _⟩
 by_cases h8:8<ts.length
 ·go_enter Tryz.func87,Tryz.ntmps87;go_wp2;go_ret;exact⟨ret_bool (catB_long h8),Below.refl _ _⟩
 go_enter Tryz.func87,Tryz.ntmps87;go_wp2;go_loopw [3] (fun i wr=>∃ k:Nat,k<=ts.length/\i=.int .i64 k/\Hid ((ts.take k).all tableB=true)/\Below w.heap.size w wr) (fun i _=>ts.length-(intOf i).toNat)
 case atStart=>exact⟨0,Nat.zero_le _,rfl,rfl,Below.refl _ _⟩
 case round=>
  obtain⟨k,hk,rfl,HP,hb⟩:=hrel;by_cases hlt:k<ts.length
  ·obtain⟨b,off,rfl,c0,c1,c2,c3,c4,c5⟩:=hx.2 k hlt;have hbw:b<w.heap.size:=lt_of_cell c0;have e0:=(hb.cell (p:=(aD b (off+k*6))) hbw).trans c0;have e1:=(hb.cell (p:=(aD b (off+k*6+1))) hbw).trans c1;have e2:=(hb.cell (p:=(aD b (off+k*6+2))) hbw).trans c2;have e3:=(hb.cell (p:=(aD b (off+k*6+3))) hbw).trans c3;have e4:=(hb.cell (p:=(aD b (off+k*6+4))) hbw).trans c4;have e5:=(hb.cell (p:=(aD b (off+k*6+5))) hbw).trans c5;clear c0 c1 c2 c3 c4 c5 hx;generalize ht:ts.getD k tz=t at *;have HT:Hid (ts.getD k tz=t):=ht;clear ht;have hsz:=hb.size;by_cases h1:t.cols<1∨4<t.cols∨t.rows<0∨1000000<t.rows
   ·have HF:Hid (false=catB ts):=catB_bad hlt (by rw[HT.out]; exact tableB_bad h1);go_wp2
    all_goals
     go_ret;exact⟨ret_bool HF.out,hb.alloc hsz _⟩
   ·have l1:1<=t.cols:=by omega
    have l2:t.cols<=4:=by omega
    have l3:0<=t.rows:=by omega
    have l4:t.rows<=1000000:=by omega
    clear h1;go_wp2;go_loop [5] (fun i=>∃ m:Nat,m<=t.cols.toNat/\i=.int .i64 m/\Hid (∀ j,j<m->1<=t.kd j/\t.kd j<=1000000)) (fun i=>t.cols.toNat-(intOf i).toNat)
    case atStart=>exact⟨0,Nat.zero_le _,rfl,fun j hj=>absurd hj (by omega)⟩
    case round=>
     obtain⟨m,hm,rfl,HM⟩:=hrel;by_cases hml:m<t.cols.toNat
     ·have hml':(m:Int)<t.cols:=by omega
      have hm4:m<4:=by omega
      have hkd:=TableD.kd_cell wr t 95 m hm4;by_cases hk1:t.kd m<1
      ·have HF:Hid (false=catB ts):=catB_bad hlt (by rw[HT.out]; exact tableB_badk m hml (by omega));go_wp2;go_ret;exact⟨ret_bool HF.out,hb.alloc hsz _⟩
      ·by_cases hk2:1000000<t.kd m
       ·have HF:Hid (false=catB ts):=catB_bad hlt (by rw[HT.out]; exact tableB_badk m hml (by omega));go_wp2;go_ret;exact⟨ret_bool HF.out,hb.alloc hsz _⟩
       ·go_wp2;go_round
        case rel=>
         refine⟨m+1,by omega,by go_num,fun j hj=>?_⟩;by_cases hjm:j=m
         ·subst hjm; omega
         ·exact HM.out j (by omega)
        case measure=>simp[intOf]; omega
     ·have hml':¬ (m:Int)<t.cols:=by omega
      have HG:Hid (tableB t=true):=tableB_good l1 l2 l3 l4 (fun j hj=>HM.out j (by omega));go_wp2;go_roundw
      case rel=>exact⟨k+1,by omega,by go_num,all_step (z:=tz) hlt HP.out (by rw[HT.out]; exact HG.out),hb.alloc hsz _⟩
      case measure=>simp[intOf]; omega
  ·go_wp2;go_ret;exact⟨ret_bool (catB_good h0 h8 hk hlt HP.out),hb⟩
theorem width_any (ao:Option Addr) (cap:Nat) (ts:List TableD) (q:QueryV) (w:World) (hx:TablesAt w ao ts) (hc:catB ts=true) (hq:q.src.At w) (h5:q.src.xs.length<=5) (ha:allB q.src.xs ts.length=true) :
  Calls Tryz.prog 89 #[.slice ao ts.length cap,.agg q.cells,.int .i64 q.src.xs.length] w fun e w'=>e=.returned (.int .i64 (widthN ts q.src.xs))/\Below w.heap.size w w':=by
 obtain⟨⟨sad,scap,xs⟩,wad,wcap,wh,group,keys,sums,sel,ord⟩:=q;unfold IntsV.At at hq;simp only at h5 ha hq;unfold QueryV.cells IntsV.val;simp only;have hl:=hx.1;have HC:Hid (catB ts=true):=hc;have HA:Hid (allB xs ts.length=true):=ha;clear hc ha;go_enter Tryz.func89,Tryz.ntmps89;go_wp2;go_loop [7,8] (fun n i=>∃ k:Nat,k<=xs.length/\i=.int .i64 k/\n=.int .i64 (widthN ts (xs.take k))) (fun _ i=>xs.length-(intOf i).toNat)
 case atStart=>exact⟨0,Nat.zero_le _,rfl,rfl⟩
 case round=>
  obtain⟨k,hk,rfl,rfl⟩:=hrel;have hbd:=widthN_bd HC.out HA.out k hk;by_cases hlt:k<xs.length
  ·obtain⟨sb,soff,rfl,hs⟩:=hq.get hlt;have hsk:=cell_alloc (hs k hlt);have hr:=allB_at HA.out hlt;have hcol:=cols_of HC.out (i:=xs[k].toNat) (by omega);obtain⟨b,off,rfl,c0,-⟩:=hx.2 xs[k].toNat (by omega);have hck:=cell_alloc c0;have HS:Hid (widthN ts (xs.take (k+1))=widthN ts (xs.take k)+(ts.getD xs[k].toNat tz).cols):=widthN_snoc ts xs k hlt;generalize (ts.getD xs[k].toNat tz).cols=cc at *;generalize widthN ts (xs.take k)=W0 at *;clear hs c0 hx hq;go_wp2;go_round
   case rel=>exact⟨k+1,by omega,by go_num,by rw[HS.out]⟩
   case measure=>simp[intOf]; omega
  ·go_wp2;go_ret;have:k=xs.length:=by omega
   subst this;exact⟨ret_int (by rw[List.take_length]),(Below.refl _ _).alloc (Nat.le_refl _) _⟩
end Go.Proofs.YtlpbelhfpoilpaaGreatDoor
