import Derived.Test.YtlpbelhfpoilpaaGreatDoorProg
import Derived.Test.YtlpbelhfpoilpaaGreatDoorC01
import Derived.Test.YtlpbelhfpoilpaaGreatDoorC14
set_option linter.all false
set_option maxRecDepth 100000
set_option maxHeartbeats 16000000
namespace Go.Scout
open Go.RowKit
theorem chk_of {ts:List TableD} {q:QueryV} (h:q.check ts=0):Chk ts q/\0<q.src.xs.length/\(q.group=false->allB q.ord.xs q.sel.xs.length=true)/\q.ord.xs.length<=4/\allB q.sel.xs (widthN ts q.src.xs)=true:=by
 unfold QueryV.check checkN at h
 cases hc:catB ts with
 | false => rw[if_pos hc] at h; omega
 | true =>
  rw[if_neg (by rw[hc]; simp)] at h
  cases hf:fullB q.src.xs q.whs q.keys.xs q.sums.xs q.sel.xs q.ord.xs with
  | true => rw[if_pos hf] at h; omega
  | false =>
   rw[if_neg (by rw[hf]; simp)] at h;by_cases hr:allB q.src.xs ts.length=true/\0<q.src.xs.length/\clausesB q.whs (widthN ts q.src.xs)=true/\restB (widthN ts q.src.xs) q.group q.keys.xs q.sums.xs q.sel.xs q.ord.xs=true
   ·obtain⟨h1,h2,h3,h4⟩:=hr;unfold fullB at hf;rw[Bool.or_eq_false_iff,decide_eq_false_iff_not] at hf;obtain⟨f1,f2⟩:=hf;have hwl:q.whs.length=q.wh.length:=by unfold QueryV.whs; simp
    have hget:∀ i,i<q.wh.length->(q.wh.getD i lz).cs∈q.whs:=fun i hi=>by
     unfold QueryV.whs;rw[List.mem_map];exact⟨q.wh.getD i lz,by simp[List.getD,hi],rfl⟩
    unfold clausesB at h3;rw[List.all_eq_true] at h3;have hcl:∀ i,i<q.wh.length->0<(q.wh.getD i lz).cs.length/\∀ c∈(q.wh.getD i lz).cs,condB c (widthN ts q.src.xs)=true:=fun i hi=>by
     have:=h3 _ (hget i hi);unfold clauseB at this;rw[Bool.and_eq_true,decide_eq_true_eq,List.all_eq_true] at this;exact this
    unfold restB at h4;simp only[Bool.and_eq_true] at h4;obtain⟨⟨⟨⟨⟨⟨⟨r1,_⟩,_⟩,r4⟩,_⟩,_⟩,_⟩,_⟩:=h4;refine⟨⟨hc,h1,by omega,by omega,?_,fun i hi=>(hcl i hi).1,fun i hi=>?_⟩,h2,fun hg=>?_,by omega,r1⟩
    ·intro i hi c hm;unfold columnsN at hm;rw[List.mem_flatMap] at hm;obtain⟨x,hx,hcx⟩:=hm;have hb:=(hcl i hi).2 x hx;unfold condB at hb;simp only[Bool.and_eq_true,decide_eq_true_eq] at hb;obtain⟨⟨⟨⟨b1,b2⟩,b3⟩,b4⟩,b5⟩:=hb;unfold condCols at hcx;split at hcx
     ·rename_i hop
      rw[if_neg hop.1,hop.2] at b5;simp only[Bool.false_eq_true,if_false,Bool.and_eq_true,decide_eq_true_eq] at b5;simp only[List.mem_cons,List.not_mem_nil,or_false] at hcx;rcases hcx with rfl | rfl
      ·exact⟨b1,b2⟩
      ·exact⟨b5.1,by omega⟩
     ·simp only[List.mem_cons,List.not_mem_nil,or_false] at hcx;subst hcx;exact⟨b1,b2⟩
    ·rw[List.any_eq_false] at f2;have:=f2 _ (hget i hi);simp only[decide_eq_true_eq] at this;omega
    ·rw[hg] at r4;exact r4
   ·rw[if_neg hr] at h; omega
end Go.Scout
namespace Go.Proofs.YtlpbelhfpoilpaaGreatDoor
open Go.RowKit Go.Scout
theorem sliceAt4 (a:Addr) (x:World) (c:Int) (h0:0<=c) (h4:c<=4) :
  (Instr.sliceAt 93 (.pointer (some a)) none (some (.int .i64 c)) none).run Tryz.prog x=.ok (.slice (some a) c.toNat 4) x:=by
 have hal:Tryz.prog.arrayLen 93=4:=by kernel_rfl
 have hel:Tryz.prog.elem 93=3:=by kernel_rfl
 rw[run_sliceAt_array_h x 93 a (by rw[hal,hel]; exact Tryz.underlying93) .i64 c h0 (by rw[hal]; omega),hal,hel];simp[slicedAt,Addr.add]
theorem isTable_any (t:TableD) (w:World) :
  Calls Tryz.prog 208 #[.agg t.vals] w fun e w'=>e=.returned (.bool (tableB t))/\Below w.heap.size w w':=by
 have HBAD:=@tableB_bad t;have HBK:=@tableB_badk t;have HG:=@tableB_good t;have hkd:=fun m hm=>TableD.kd_cell w t 95 m hm
 generalize tableB t=B at *;unfold TableD.vals;by_cases h1:t.cols<1∨4<t.cols∨t.rows<0∨1000000<t.rows
 ·have HF:Hid (false=B):=(HBAD h1).symm;clear HBAD HBK HG hkd;go_enter Tryz.func208,Tryz.ntmps208;go_wp2
  all_goals
   go_ret;exact⟨ret_bool HF.out,bQ2 _ _⟩
 ·have l1:1<=t.cols:=by omega
  have l2:t.cols<=4:=by omega
  have l3:0<=t.rows:=by omega
  have l4:t.rows<=1000000:=by omega
  have HBK':Hid _:=HBK;have HG':Hid _:=HG;have HK:Hid _:=hkd;clear HBAD HBK HG h1 hkd;have hsl:=fun (a:Addr) (x:World)=>sliceAt4 a x t.cols (by omega) (by omega)
  go_enter Tryz.func208,Tryz.ntmps208;go_wp2;go_loop [28] (fun i=>∃ m:Nat,m<=t.cols.toNat/\i=.int .i64 m/\Hid (∀ j,j<m->1<=t.kd j/\t.kd j<=1000000)) (fun i=>t.cols.toNat-(intOf i).toNat)
  case atStart=>exact⟨0,Nat.zero_le _,rfl,fun j hj=>absurd hj (by omega)⟩
  case round=>
   obtain⟨m,hm,rfl,HM⟩:=hrel;by_cases hml:m<t.cols.toNat
   ·have hml':(m:Int)<t.cols:=by omega
    have hkm:=HK.out m (by omega);by_cases hk1:t.kd m<1
    ·have HF:Hid (false=B):=(HBK'.out m hml (by omega)).symm;go_wp2;go_ret;exact⟨ret_bool HF.out,bQ2 _ _⟩
    ·by_cases hk2:1000000<t.kd m
     ·have HF:Hid (false=B):=(HBK'.out m hml (by omega)).symm;go_wp2;go_ret;exact⟨ret_bool HF.out,bQ2 _ _⟩
     ·go_wp2;go_round
      case rel=>
       refine⟨m+1,by omega,by go_num,fun j hj=>?_⟩;by_cases hjm:j=m
       ·subst hjm; omega
       ·exact HM.out j (by omega)
      case measure=>simp[intOf]; omega
   ·have hml':¬ (m:Int)<t.cols:=by omega
    have HF:Hid (true=B):=(HG'.out l1 l2 l3 l4 (fun j hj=>HM.out j (by omega))).symm;go_wp2;go_ret;exact⟨ret_bool HF.out,bQ2 _ _⟩
theorem isCat1_any (t:TableD) (w:World) :
  Calls Tryz.prog 207 #[.agg t.vals] w fun e w'=>e=.returned (.bool (!tableB t))/\Below w.heap.size w w':=by
 have hC:=fun x=>isTable_any t x
 generalize tableB t=B at *;unfold TableD.vals at *;go_enter Tryz.func207,Tryz.ntmps207;go_wp2_with (go_at_call 208; refine (hC _).mono ?_; rintro e w' ⟨rfl,hb⟩);go_ret;exact⟨ret_bool rfl,bQ1 (bQ2 _ _) hb⟩
theorem indexT_any (ao:Option Addr) (cap:Nat) (ts:List TableD) (w:World) (hx:TablesAt w ao ts) :
  Calls Tryz.prog 279 #[.slice ao ts.length cap,.func (.func 207) #[] #[]] w fun e w'=>∃ r,e=.returned (.int .i64 r)/\foundAt r (ts.any fun t=>!tableB t)/\Below w.heap.size w w':=by
 have hl:=hx.1;go_enter Tryz.func279,Tryz.ntmps279;go_wp2;go_loopw [8] (fun i wr=>∃ k:Nat,k<=ts.length/\i=.int .i64 k/\Hid (∀ j,j<k->(!tableB (ts.getD j tz))=false)/\Below w.heap.size w wr) (fun i _=>ts.length-(intOf i).toNat)
 case atStart=>exact⟨0,Nat.zero_le _,rfl,fun j hj=>absurd hj (by omega),Below.refl _ _⟩
 case round=>
  obtain⟨k,hk,rfl,HP,hb⟩:=hrel;by_cases hlt:k<ts.length
  ·obtain⟨b,off,rfl,c0,c1,c2,c3,c4,c5⟩:=hx.2 k hlt;have e0:=cB hb c0;have e1:=cB hb c1;have e2:=cB hb c2;have e3:=cB hb c3;have e4:=cB hb c4;have e5:=cB hb c5;clear c0 c1 c2 c3 c4 c5 hx;have HA:Hid ((!tableB (ts.getD k tz))=true->(ts.any fun t=>!tableB t)=true):=fun h=>any_at (z:=tz) hlt h
   have hC:=isCat1_any (ts.getD k tz) wr;unfold TableD.vals at hC;generalize hge:ts.getD k tz=t at *;have HGE:Hid (ts.getD k tz=t):=hge;clear hge;go_wp2_with fail;refine hC.mono ?_;clear hC;rintro e w2 ⟨rfl,hb2⟩
   cases hB:tableB t
   ·rw[hB] at HA;go_wp2;go_ret;exact⟨_,ret_int rfl,⟨by omega,by rw[HA.out rfl]; simp⟩,bQ1 hb hb2⟩
   ·have HB:Hid (tableB t=true):=hB;clear hB;go_wp2;go_roundw
    case rel=>
     refine⟨k+1,by omega,by go_num,fun j hj=>?_,bQ1 hb hb2⟩;by_cases hjk:j=k
     ·subst hjk; rw[HGE.out,HB.out]; rfl
     ·exact HP.out j (by omega)
    case measure=>simp[intOf]; omega
  ·have HA:Hid ((ts.any fun t=>!tableB t)=false):=any_none (z:=tz) (fun j hj=>HP.out j (by omega));go_wp2;go_ret;exact⟨_,ret_int rfl,⟨by omega,by rw[HA.out]; rfl⟩,hb⟩
theorem containsT_any (ao:Option Addr) (cap:Nat) (ts:List TableD) (w:World) (hx:TablesAt w ao ts) :
  Calls Tryz.prog 206 #[.slice ao ts.length cap,.func (.func 207) #[] #[]] w fun e w'=>e=.returned (.bool (ts.any fun t=>!tableB t))/\Below w.heap.size w w':=by
 have hC:=indexT_any ao cap ts w hx;go_enter Tryz.func206,Tryz.ntmps206;go_wp2_with fail;refine hC.mono ?_;clear hC;rintro e w2 ⟨r,rfl,hr,hb2⟩;have HR:Hid _:=hr.2;clear hr;go_wp2;go_ret;exact⟨ret_bool HR.out,hb2⟩
theorem isCatalogP_any (ao:Option Addr) (cap:Nat) (ts:List TableD) (w:World) (hx:TablesAt w ao ts) :
  Calls Tryz.prog 142 #[.slice ao ts.length cap] w fun e w'=>e=.returned (.bool (catB ts))/\Below w.heap.size w w':=by
 have hl:=hx.1;by_cases h0:ts.length<1
 ·go_enter Tryz.func142,Tryz.ntmps142;go_wp2;go_ret;exact⟨ret_bool (catB_short h0),Below.refl _ _⟩
 by_cases h8:8<ts.length
 ·go_enter Tryz.func142,Tryz.ntmps142;go_wp2;go_ret;exact⟨ret_bool (catB_long h8),Below.refl _ _⟩
 have hC:=containsT_any ao cap ts w hx;have HA:Hid _:=catB_any h0 h8;generalize (ts.any fun t=>!tableB t)=Y at *;go_enter Tryz.func142,Tryz.ntmps142;go_wp2_with fail;refine hC.mono ?_;clear hC;rintro e w2 ⟨rfl,hb2⟩;go_wp2;go_ret;exact⟨ret_bool HA.out,hb2⟩
theorem isBelow_any (n b:Int) (w:World) :
  Calls Tryz.prog 283 #[.int .i64 n,.int .i64 b] w fun e w'=>e=.returned (.bool (inB n b))/\w' = w:=by
 by_cases h1:0<=n
 ·go_enter Tryz.func283,Tryz.ntmps283;go_wp2;go_ret;exact⟨ret_bool (by simp[inB]; omega),rfl⟩
 ·go_enter Tryz.func283,Tryz.ntmps283;go_wp2;go_ret;exact⟨ret_bool (by simp[inB]; omega),rfl⟩
theorem isNumber_any (n:Int) (w:World) :
  Calls Tryz.prog 293 #[.int .i64 n] w fun e w'=>e=.returned (.bool (decide (-1000<=n)&&decide (n<=1000)))/\w' = w:=by
 by_cases h1:-1000<=n
 ·go_enter Tryz.func293,Tryz.ntmps293;go_wp2;go_ret;exact⟨ret_bool (by simp; omega),rfl⟩
 ·go_enter Tryz.func293,Tryz.ntmps293;go_wp2;go_ret;exact⟨ret_bool (by simp; omega),rfl⟩
theorem allBelow1_any (n b:Int) (p o:Nat) (w:World) (hp:w.cell? (aD p o)=some (.int .i64 b)) :
  Calls Tryz.prog 282 #[.int .i64 n,.pointer (some (aD p o))] w fun e w'=>e=.returned (.bool (!inB n b))/\w' = w:=by
 have hC:=isBelow_any n b w;generalize inB n b=Y at *;go_enter Tryz.func282,Tryz.ntmps282;go_wp2_with fail;refine hC.mono ?_;clear hC;rintro e w2 ⟨rfl,rfl⟩;go_wp2;go_ret;exact⟨ret_bool rfl,rfl⟩
theorem indexI_any (ao:Option Addr) (cap:Nat) (xs:List Int) (bd:Int) (p o:Nat) (w:World) (hx:IntsAt w ao xs) (hp:w.cell? (aD p o)=some (.int .i64 bd)) :
  Calls Tryz.prog 348 #[.slice ao xs.length cap,.func (.func 282) #[] #[.pointer (some (aD p o))]] w fun e w'=>∃ r,e=.returned (.int .i64 r)/\foundAt r (xs.any fun x=>!inB x bd)/\w' = w:=by
 have hl:=hx.1;go_enter Tryz.func348,Tryz.ntmps348;go_wp2;go_loop [8] (fun i=>∃ k:Nat,k<=xs.length/\i=.int .i64 k/\Hid (∀ j,j<k->(!inB (xs.getD j 0) bd)=false)) (fun i=>xs.length-(intOf i).toNat)
 case atStart=>exact⟨0,Nat.zero_le _,rfl,fun j hj=>absurd hj (by omega)⟩
 case round=>
  obtain⟨k,hk,rfl,HP⟩:=hrel;by_cases hlt:k<xs.length
  ·obtain⟨b,off,rfl,hc⟩:=hx.get hlt;have hck:=hc k hlt;have HA:Hid ((!inB (xs.getD k 0) bd)=true->(xs.any fun x=>!inB x bd)=true):=fun h=>any_at (z:=0) hlt h
   have hC:=allBelow1_any (xs.getD k 0) bd p o w hp;have HGE:Hid (xs.getD k 0=xs.getD k 0):=rfl;generalize hge:xs.getD k 0=x at *;have HGE:Hid (xs.getD k 0=x):=hge;clear hge hc hx hp;go_wp2_with fail;refine hC.mono ?_;clear hC;rintro e w2 ⟨rfl,rfl⟩
   cases hB:inB x bd
   ·rw[hB] at HA;go_wp2;go_ret;exact⟨_,ret_int rfl,⟨by omega,by rw[HA.out rfl]; simp⟩,rfl⟩
   ·have HB:Hid (inB x bd=true):=hB;clear hB;go_wp2;go_round
    case rel=>
     refine⟨k+1,by omega,by go_num,fun j hj=>?_⟩;by_cases hjk:j=k
     ·subst hjk; rw[HGE.out,HB.out]; rfl
     ·exact HP.out j (by omega)
    case measure=>simp[intOf]; omega
  ·have HA:Hid ((xs.any fun x=>!inB x bd)=false):=any_none (z:=0) (fun j hj=>HP.out j (by omega));go_wp2;go_ret;exact⟨_,ret_int rfl,⟨by omega,by rw[HA.out]; rfl⟩,rfl⟩
theorem containsI_any (ao:Option Addr) (cap:Nat) (xs:List Int) (bd:Int) (p o:Nat) (w:World) (hx:IntsAt w ao xs) (hp:w.cell? (aD p o)=some (.int .i64 bd)) :
  Calls Tryz.prog 281 #[.slice ao xs.length cap,.func (.func 282) #[] #[.pointer (some (aD p o))]] w fun e w'=>e=.returned (.bool (xs.any fun x=>!inB x bd))/\w' = w:=by
 have hC:=indexI_any ao cap xs bd p o w hx hp;go_enter Tryz.func281,Tryz.ntmps281;go_wp2_with fail;refine hC.mono ?_;clear hC;rintro e w2 ⟨r,rfl,hr,rfl⟩;have HR:Hid _:=hr.2;clear hr;go_wp2;go_ret;exact⟨ret_bool HR.out,rfl⟩
theorem allBelow_any (ao:Option Addr) (cap:Nat) (xs:List Int) (bd:Int) (w:World) (hx:IntsAt w ao xs) :
  Calls Tryz.prog 211 #[.slice ao xs.length cap,.int .i64 bd] w fun e w'=>e=.returned (.bool (allB xs bd))/\Below w.heap.size w w':=by
 have hC:=containsI_any ao cap xs bd w.heap.size 0 (w.alloc (.cells #[.int .i64 bd] 3)) (hx.below (bQ2 _ _)) (by simp);have HA:Hid _:=allB_any xs bd;generalize (xs.any fun x=>!inB x bd)=Y at *;have hmf:∀ (fn:Fn) (first cap:Array Value) (w:World),(Instr.makeFunc fn first cap).run Tryz.prog w=.ok (.func fn first cap) w:=fun _ _ _ _=>rfl
 go_enter Tryz.func211,Tryz.ntmps211;go_wp2_with fail;refine hC.mono ?_;clear hC;rintro e w2 ⟨rfl,rfl⟩;go_wp2;go_ret;exact⟨ret_bool HA.out,bQ2 _ _⟩
theorem eqB {a b:Int} (h:a=b):(a==b)=true:=by simpa using h
theorem neB {a b:Int} (h:¬ a=b):(a==b)=false:=by simpa using h
theorem indexQ_any (ao:Option Addr) (cap:Nat) (xs:List Int) (v:Int) (w:World) (hx:IntsAt w ao xs) :
  Calls Tryz.prog 349 #[.slice ao xs.length cap,.int .i64 v] w fun e w'=>∃ r,e=.returned (.int .i64 r)/\foundAt r (xs.any fun x=>decide (v=x))/\w' = w:=by
 have hl:=hx.1;go_enter Tryz.func349,Tryz.ntmps349;go_wp2;go_loop [8] (fun i=>∃ k:Nat,k<=xs.length/\i=.int .i64 k/\Hid (∀ j,j<k->decide (v=xs.getD j 0)=false)) (fun i=>xs.length-(intOf i).toNat)
 case atStart=>exact⟨0,Nat.zero_le _,rfl,fun j hj=>absurd hj (by omega)⟩
 case round=>
  obtain⟨k,hk,rfl,HP⟩:=hrel;by_cases hlt:k<xs.length
  ·obtain⟨b,off,rfl,hc⟩:=hx.get hlt;have hck:=hc k hlt;have HA:Hid (decide (v=xs.getD k 0)=true->(xs.any fun x=>decide (v=x))=true):=fun h=>any_at (z:=0) hlt h
   generalize hge:xs.getD k 0=x at *;have HGE:Hid (xs.getD k 0=x):=hge;clear hge hc hx;by_cases hvx:v=x
   ·have hb:=eqB hvx;have HV:Hid (v=x):=hvx;clear hvx;go_wp2;go_ret;exact⟨_,ret_int rfl,⟨by omega,by rw[HA.out (decide_eq_true HV.out)]; simp⟩,rfl⟩
   ·have hb:=neB hvx;have HV:Hid (¬ v=x):=hvx;clear hvx;go_wp2;go_round
    case rel=>
     refine⟨k+1,by omega,by go_num,fun j hj=>?_⟩;by_cases hjk:j=k
     ·subst hjk; rw[HGE.out]; exact decide_eq_false HV.out
     ·exact HP.out j (by omega)
    case measure=>simp[intOf]; omega
  ·have HA:Hid ((xs.any fun x=>decide (v=x))=false):=any_none (z:=0) (fun j hj=>HP.out j (by omega));go_wp2;go_ret;exact⟨_,ret_int rfl,⟨by omega,by rw[HA.out]; rfl⟩,rfl⟩
theorem containsQ_any (ao:Option Addr) (cap:Nat) (xs:List Int) (v:Int) (w:World) (hx:IntsAt w ao xs) :
  Calls Tryz.prog 285 #[.slice ao xs.length cap,.int .i64 v] w fun e w'=>e=.returned (.bool (xs.any fun x=>decide (v=x)))/\w' = w:=by
 have hC:=indexQ_any ao cap xs v w hx;go_enter Tryz.func285,Tryz.ntmps285;go_wp2_with fail;refine hC.mono ?_;clear hC;rintro e w2 ⟨r,rfl,hr,rfl⟩;have HR:Hid _:=hr.2;clear hr;go_wp2;go_ret;exact⟨ret_bool HR.out,rfl⟩
theorem IntsAt.front {w:World} {ao:Option Addr} {xs:List Int} (h:IntsAt w ao xs) {k:Nat} (hk:k<=xs.length):IntsAt w ao (xs.take k):=by
 have hl:(xs.take k).length=k:=by rw[List.length_take]; omega
 refine⟨by have:=h.1; omega,fun i hi=>?_⟩;obtain⟨b,off,e,hc⟩:=h.2 i (by omega);refine⟨b,off,e,?_⟩;rw[hc];simp[List.getD,show i<k by omega]
theorem allDifferent_any (ao:Option Addr) (cap:Nat) (xs:List Int) (w:World) (hx:IntsAt w ao xs) (hcap:xs.length<=cap) :
  Calls Tryz.prog 216 #[.slice ao xs.length cap] w fun e w'=>e=.returned (.bool (apartB xs))/\w' = w:=by
 have hl:=hx.1;go_enter Tryz.func216,Tryz.ntmps216;go_wp2;go_loop [7] (fun i=>∃ k:Nat,k<=xs.length/\i=.int .i64 k/\Hid (∀ i,i<k->∀ j,j<i->xs.getD i 0≠xs.getD j 0)) (fun i=>xs.length-(intOf i).toNat)
 case atStart=>exact⟨0,Nat.zero_le _,rfl,fun i hi=>absurd hi (by omega)⟩
 case round=>
  obtain⟨k,hk,rfl,HP⟩:=hrel;by_cases hlt:k<xs.length
  ·have hfr:=IntsAt.front hx hk;obtain⟨b,off,rfl,hc⟩:=hx.get hlt;have hck:=hc k hlt;have hC:=containsQ_any (some (aD b off)) cap (xs.take k) (xs.getD k 0) w hfr;have hlen:(xs.take k).length=k:=by rw[List.length_take]; omega
   rw[hlen] at hC;have HT:Hid (((xs.take k).any fun x=>decide (xs.getD k 0=x))=true->∃ j,j<k/\xs.getD k 0=xs.getD j 0):=fun h=>by
    rw[List.any_eq_true] at h;obtain⟨x,hx,hd⟩:=h;obtain⟨j,hj,rfl⟩:=List.getElem_of_mem hx;have hjk:j<k:=by omega
    have:=of_decide_eq_true hd;refine⟨j,hjk,this.trans ?_⟩;have hjl:j<xs.length:=by omega
    simp[List.getD,hjl]
   have HN:Hid (((xs.take k).any fun x=>decide (xs.getD k 0=x))=false->∀ j,j<k->xs.getD k 0≠xs.getD j 0):=fun h j hj he=>by
    rw[List.any_eq_false] at h;have hjl:j<xs.length:=by omega
    refine h ((xs.take k)[j]'(by omega)) (List.getElem_mem _) (decide_eq_true ?_);rw[he];simp[List.getD,hjl]
   generalize hY:((xs.take k).any fun x=>decide (xs.getD k 0=x))=Y at *;clear hY hlen hfr hc hx;generalize hge:xs.getD k 0=x at *;have HGE:Hid (xs.getD k 0=x):=hge;clear hge;go_wp2_with fail;refine hC.mono ?_;clear hC;rintro e w2 ⟨rfl,rfl⟩
   cases Y
   ·go_wp2;go_round
    case rel=>
     refine⟨k+1,by omega,by go_num,fun i hi=>?_⟩;by_cases hik:i=k
     ·subst hik; rw[HGE.out]; exact HN.out (by trivial)
     ·exact HP.out i (by omega)
    case measure=>simp[intOf]; omega
   ·obtain⟨j,hj,he⟩:=HT.out rfl;have HF:Hid (false=apartB xs):=apartB_bad hlt hj (by rw[HGE.out]; exact he);clear he;go_wp2;go_ret;exact⟨ret_bool HF.out,rfl⟩
  ·go_wp2;go_ret;have hkk:k=xs.length:=by omega
   subst hkk;exact⟨ret_bool (apartB_good HP.out),rfl⟩
theorem condFits_any (c:CondD) (n:Int) (w:World) :
  Calls Tryz.prog 284 #[c.val,.int .i64 n] w fun e w'=>e=.returned (.bool (condB c n))/\Below w.heap.size w w':=by
 have hin:=@condB_in c n;have h01:=@condB_eqless_const c n;have h02:=@condB_eqless_col c n;have h03:=@condB_isnil c n;have h04:=@condB_other c n;obtain⟨nt,op,left,const,right⟩:=c;unfold CondD.val;simp only at hin h01 h02 h03 h04;generalize condB ⟨nt,op,left,const,right⟩ n=B at *;have hC1:=fun x=>isBelow_any left n x
 have hC2:=fun x=>isBelow_any right n x
 have hC3:=fun x=>isNumber_any right x
 generalize inB right n=Y at *;generalize (decide (-1000<=right)&&decide (right<=1000))=Z at *
 cases hL:inB left n
 ·have HF:Hid (false=B):=hin hL;rw[hL] at hC1;clear hin h01 h02 h03 h04 hC2 hC3 hL;go_enter Tryz.func284,Tryz.ntmps284;go_wp2_with fail;refine (hC1 _).mono ?_;clear hC1;rintro e w2 ⟨rfl,rfl⟩;go_wp2;go_ret;exact⟨ret_bool HF.out,bQ2 _ _⟩
 ·rw[hL] at hC1;by_cases ho:op=0∨op=1
  ·cases const
   ·have HF:Hid (Y=B):=h02 hL ho rfl;clear hin h01 h02 h03 h04 hC3 hL;rcases ho with ho | ho
    all_goals
     subst ho;go_enter Tryz.func284,Tryz.ntmps284;go_wp2_with fail;refine (hC1 _).mono ?_;rintro e w2 ⟨rfl,rfl⟩;go_wp2_with fail;refine (hC2 _).mono ?_;rintro e w3 ⟨rfl,rfl⟩;go_wp2;go_ret;exact⟨ret_bool HF.out,bQ2 _ _⟩
   ·have HF:Hid (Z=B):=h01 hL ho rfl;clear hin h01 h02 h03 h04 hC2 hL;rcases ho with ho | ho
    all_goals
     subst ho;go_enter Tryz.func284,Tryz.ntmps284;go_wp2_with fail;refine (hC1 _).mono ?_;rintro e w2 ⟨rfl,rfl⟩;go_wp2_with fail;refine (hC3 _).mono ?_;rintro e w3 ⟨rfl,rfl⟩;go_wp2;go_ret;exact⟨ret_bool HF.out,bQ2 _ _⟩
  ·by_cases h2:op=2
   ·have HF:Hid ((!const&&decide (right=0))=B):=h03 hL h2;clear hin h01 h02 h03 h04 hC2 hC3 hL ho;subst h2
    cases const
    ·by_cases h3:right=0
     ·have HF':Hid (true=B):=show true=B by have:=HF.out; simpa [h3] using this
      have hb:=eqB h3;clear HF h3;go_enter Tryz.func284,Tryz.ntmps284;go_wp2_with fail;refine (hC1 _).mono ?_;rintro e w2 ⟨rfl,rfl⟩;go_wp2;go_ret;exact⟨ret_bool HF'.out,bQ2 _ _⟩
     ·have HF':Hid (false=B):=show false=B by have:=HF.out; simpa [h3] using this
      have hb:=neB h3;clear HF h3;go_enter Tryz.func284,Tryz.ntmps284;go_wp2_with fail;refine (hC1 _).mono ?_;rintro e w2 ⟨rfl,rfl⟩;go_wp2;go_ret;exact⟨ret_bool HF'.out,bQ2 _ _⟩
    ·have HF':Hid (false=B):=show false=B by have:=HF.out; simpa using this
     go_enter Tryz.func284,Tryz.ntmps284;go_wp2_with fail;refine (hC1 _).mono ?_;rintro e w2 ⟨rfl,rfl⟩;go_wp2;go_ret;exact⟨ret_bool HF'.out,bQ2 _ _⟩
   ·have HF:Hid (false=B):=h04 (by omega) (by omega) h2;have b0:(op==0)=false:=neB (by omega);have b1:(op==1)=false:=neB (by omega);have b2:(op==2)=false:=neB h2;clear hin h01 h02 h03 h04 hC2 hC3 hL ho h2;go_enter Tryz.func284,Tryz.ntmps284;go_wp2_with fail;refine (hC1 _).mono ?_;rintro e w2 ⟨rfl,rfl⟩;go_wp2;go_ret;exact⟨ret_bool HF.out,bQ2 _ _⟩
end Go.Proofs.YtlpbelhfpoilpaaGreatDoor
