import Derived.Laws.BitsAllLaws
import Derived.Laws.ShiftsVarLaws
import Derived.Shelf.Bits.Mul64
import Derived.Shelf.Strconv.Itoa0
import Derived.BigQuiet
import Derived.Test.YtlpbelhfpoilpabGreatDoorC03
import Derived.Test.YtlpbelhfpoilpabGreatDoorC05
import Derived.Test.YtlpbelhfpoilpabGreatDoorC06
set_option linter.all false
set_option maxRecDepth 100000
set_option maxHeartbeats 16000000
namespace Go.Scout
open Go.RowKit
theorem timesN_fold_le:∀ (l:List Nat) (m:Nat),m<=topN->l.foldl timesN m<=topN
 | [],_,h => h
 | a::l,m,_ => timesN_fold_le l _ (timesN_le m a)
theorem parts_bd {ts:List TableD} {src:List Int} (hc:catB ts=true) (ha:allB src ts.length=true) {cs:List CondD} (hcol:∀ c∈columnsN cs,0<=c/\c<widthN ts src):1<=partsN ts src cs/\partsN ts src cs<=1000000:=by
 unfold partsN;split
 ·omega
 rename_i h1
 split
 ·omega
 split
 ·omega
 rename_i o2
 have h0:cs.length=1:=by
  by_cases e:cs.length=1
  ·exact e
  ·exact absurd (.inl e) h1
 have hm:∀ x∈condCols (cs.getD 0 cz),x∈columnsN cs:=by
  match cs,h0 with
  | [c],_ => intro x hx; simpa [columnsN] using hx
 have hl:=hcol (cs.getD 0 cz).left (hm _ (by unfold condCols; split <;> simp));have bl:=kinds_bd hc ha hl.1 hl.2;split
 ·omega
 ·rename_i hcn
  have hr:=hcol (cs.getD 0 cz).right (hm _ (by unfold condCols; rw[if_pos ⟨o2,by simpa using hcn⟩]; simp));have br:=kinds_bd hc ha hr.1 hr.2;omega
end Go.Scout
namespace Go.Proofs.YtlpbelhfpoilpabGreatDoor
open Go.RowKit Go.Scout
end Go.Proofs.YtlpbelhfpoilpabGreatDoor
namespace Go.Scout
open Go.RowKit
theorem wrap_pow {n:Nat} (h:n<64):IntKind.u64.wrap ((2:Int) ^ n)=((2 ^ n:Nat):Int):=by
 have h1:((2:Int) ^ n)=((2 ^ n:Nat):Int):=by simp
 have h2:2 ^ n<2 ^ 64:=Nat.pow_lt_pow_right (by omega) h;rw[h1];generalize 2 ^ n=m at *;simp only[IntKind.wrap,IntKind.bits,IntKind.signed];simp;omega
theorem or_pow {s n:Nat} (hs:s<18446744073709551616) (h:n<64):bits BinOp.or IntKind.u64 (s:Int) (IntKind.u64.wrap ((2:Int) ^ n))=((s|||2 ^ n:Nat):Int):=by
 rw[wrap_pow h];exact u64_or_nat s (2 ^ n) hs (Nat.pow_lt_pow_right (by omega) h)
theorem setN_take {l:List Int} {k:Nat} (hk:k<l.length):setN (l.take (k+1))=setN (l.take k)|||2 ^ (l.getD k 0).toNat:=by
 have e:l.getD k 0=l[k]:=by simp[List.getD,hk]
 rw[List.take_succ_eq_append_getElem hk,setN_snoc,e]
theorem setN_take_lt {l:List Int} (h:∀ x∈l,0<=x/\x<64) (k:Nat):setN (l.take k)<18446744073709551616:=setN_lt (n:=64) (fun x hx=>h x (List.mem_of_mem_take hx))
def orL (l:List Nat):Nat:=l.foldl (· ||| ·) 0
theorem orL_take {l:List Nat} {k:Nat} (hk:k<l.length):orL (l.take (k+1))=orL (l.take k)|||l.getD k 0:=by
 have e:l.getD k 0=l[k]:=by simp[List.getD,hk]
 rw[List.take_succ_eq_append_getElem hk,e];unfold orL;rw[List.foldl_append];rfl
theorem orL_lt {l:List Nat} (h:∀ x∈l,x<18446744073709551616):∀ k,orL (l.take k)<18446744073709551616:=fun k=>by
 induction k with
 | zero => simp[orL]
 | succ k ih =>
  by_cases hk:k<l.length
  ·rw[orL_take hk];have:l.getD k 0<18446744073709551616:=by
    have e:l.getD k 0=l[k]:=by simp[List.getD,hk]
    rw[e]; exact h _ (List.getElem_mem hk)
   exact Nat.or_lt_two_pow (n:=64) ih this
  ·rw[List.take_of_length_le (by omega)];rw[List.take_of_length_le (by omega)] at ih;exact ih
end Go.Scout
namespace Go.Proofs.YtlpbelhfpoilpabGreatDoor
open Go.RowKit Go.Scout
theorem covers_any (a b:Nat) (ha:a<18446744073709551616) (hb:b<18446744073709551616) (w:World) :
  Calls Tryz.prog 67 #[.int .u64 (a:Int),.int .u64 (b:Int)] w fun e w'=>e=.returned (.bool (coversB a b))/\w' = w:=by
 have h1:=u64_andNot_nat b a hb ha;go_enter Tryz.func67,Tryz.ntmps67;go_wp2;go_ret;refine⟨ret_bool ?_,rfl⟩;unfold coversB;generalize b &&& 18446744073709551615-a=x;rw[Bool.eq_iff_iff,beq_iff_eq,decide_eq_true_eq];omega
theorem meets_any (a b:Nat) (ha:a<18446744073709551616) (hb:b<18446744073709551616) (w:World) :
  Calls Tryz.prog 129 #[.int .u64 (a:Int),.int .u64 (b:Int)] w fun e w'=>e=.returned (.bool (decide (a &&& b≠0)))/\w' = w:=by
 have h1:=u64_and_nat a b ha hb;go_enter Tryz.func129,Tryz.ntmps129;go_wp2;go_ret;refine⟨ret_bool ?_,rfl⟩;generalize a &&& b=x;rw[Bool.eq_iff_iff,bne_iff_ne,decide_eq_true_eq];omega
theorem setHas_any (s n:Nat) (hs:s<18446744073709551616) (hn:n<64) (w:World) :
  Calls Tryz.prog 71 #[.int .u64 (s:Int),.int .i64 n] w fun e w'=>e=.returned (.bool (s.testBit n))/\w' = w:=by
 go_enter Tryz.func71,Tryz.ntmps71;go_wp2;go_ret;refine⟨ret_bool ?_,rfl⟩;have h1:((s:Int) / 2 ^ n)=((s / 2 ^ n:Nat):Int):=by simp
 have h2:s / 2 ^ n<18446744073709551616:=Nat.lt_of_le_of_lt (Nat.div_le_self _ _) hs;have h3:=u64_and_nat (s / 2 ^ n) 1 h2 (by omega);rw[h1];have h4:bits BinOp.and IntKind.u64 ((s / 2 ^ n:Nat):Int) 1=((s / 2 ^ n &&& 1:Nat):Int):=h3;rw[h4,Nat.testBit,Nat.shiftRight_eq_div_pow,Nat.and_comm,Bool.eq_iff_iff,beq_iff_eq,bne_iff_ne,Nat.one_and_eq_mod_two];omega
theorem firstOf_any (n:Nat) (hn:n<64) (w:World) :
  Calls Tryz.prog 45 #[.int .i64 n] w fun e w'=>e=.returned (.int .u64 ((2 ^ n-1:Nat):Int))/\w' = w:=by
 go_enter Tryz.func45,Tryz.ntmps45;go_wp2;go_ret;refine⟨ret_int ?_,rfl⟩;have h1:((2:Int) ^ n)=((2 ^ n:Nat):Int):=by simp
 have h2:2 ^ n<2 ^ 64:=Nat.pow_lt_pow_right (by omega) hn;have h3:0<2 ^ n:=Nat.pow_pos (by omega);rw[h1];generalize 2 ^ n=m at *;simp only[IntKind.wrap,IntKind.bits,IntKind.signed];simp;omega
theorem setOf_any (ao:Option Addr) (cap:Nat) (xs:List Int) (w:World) (hx:IntsAt w ao xs) (hs:∀ x∈xs,0<=x/\x<64) :
  Calls Tryz.prog 44 #[.slice ao xs.length cap] w fun e w'=>e=.returned (.int .u64 ((setN xs:Nat):Int))/\w' = w:=by
 have hl:=hx.1;have HX:Hid _:=hx;have HS:Hid _:=hs;have HE:Hid (setN (xs.take xs.length)=setN xs):=by show _=_; rw[List.take_length]
 clear hx hs;go_enter Tryz.func44,Tryz.ntmps44;go_wp2;go_loopw [3,8] (fun sv iv wr=>∃ k:Nat,k<=xs.length/\iv=.int .i64 k/\(∃ s:Nat,sv=.int .u64 (s:Int)/\Hid (s=setN (xs.take k)))/\wr=w) (fun _ iv _=>xs.length-(intOf iv).toNat)
 case atStart=>exact⟨0,Nat.zero_le _,rfl,⟨0,rfl,rfl⟩,rfl⟩
 case round=>
  obtain⟨k,hk,rfl,⟨s,rfl,hs⟩,rfl⟩:=hrel;by_cases hlt:k<xs.length
  ·obtain⟨b,off,rfl,hc⟩:=IntsAt.get HX.out hlt;have hck:=hc k hlt;have hm:=HS.out _ (getD_memR hlt (d:=0));have HT:Hid _:=setN_take hlt;have hsl:s<18446744073709551616:=by rw[hs.out]; exact setN_take_lt HS.out k
   clear hc;generalize xs.getD k 0=x at *;obtain⟨n,rfl⟩:=Int.eq_ofNat_of_zero_le hm.1;have hn:n<64:=by omega
   go_wp2;go_roundw
   case rel=>exact⟨k+1,by omega,by go_num,⟨s|||2 ^ n,by rw[or_pow hsl hn],by show _=_; rw[HT.out,hs.out]; rfl⟩,trivial⟩
   case measure=>simp[intOf]; omega
  ·obtain rfl:k=xs.length:=by omega
   have HV:Hid (s=setN xs):=hs.out.trans HE.out;clear hs;go_wp2;go_ret;exact⟨ret_int (by rw[HV.out]),rfl⟩
theorem union_any (ao:Option Addr) (cap:Nat) (xs:List Nat) (w:World) (hx:NatsAt w ao xs) (hs:∀ x∈xs,x<18446744073709551616) :
  Calls Tryz.prog 75 #[.slice ao xs.length cap] w fun e w'=>e=.returned (.int .u64 ((orL xs:Nat):Int))/\w' = w:=by
 have hl:=hx.1;have HX:Hid _:=hx;have HS:Hid _:=hs;have HE:Hid (orL (xs.take xs.length)=orL xs):=by show _=_; rw[List.take_length]
 clear hx hs;go_enter Tryz.func75,Tryz.ntmps75;go_wp2;go_loopw [3,8] (fun sv iv wr=>∃ k:Nat,k<=xs.length/\iv=.int .i64 k/\(∃ s:Nat,sv=.int .u64 (s:Int)/\Hid (s=orL (xs.take k)))/\wr=w) (fun _ iv _=>xs.length-(intOf iv).toNat)
 case atStart=>exact⟨0,Nat.zero_le _,rfl,⟨0,rfl,rfl⟩,rfl⟩
 case round=>
  obtain⟨k,hk,rfl,⟨s,rfl,hs⟩,rfl⟩:=hrel;by_cases hlt:k<xs.length
  ·obtain⟨b,off,rfl,hc⟩:=NatsAt.get HX.out hlt;have hck:=hc k hlt;have hm:=HS.out _ (getD_memR hlt (d:=0));have HT:Hid _:=orL_take hlt;have hsl:s<18446744073709551616:=by rw[hs.out]; exact orL_lt HS.out k
   clear hc;generalize xs.getD k 0=x at *;have hor:=u64_or_nat s x hsl hm;go_wp2;go_roundw
   case rel=>exact⟨k+1,by omega,by go_num,⟨s|||x,rfl,by show _=_; rw[HT.out,hs.out]⟩,trivial⟩
   case measure=>simp[intOf]; omega
  ·obtain rfl:k=xs.length:=by omega
   have HV:Hid (s=orL xs):=hs.out.trans HE.out;clear hs;go_wp2;go_ret;exact⟨ret_int (by rw[HV.out]),rfl⟩
theorem union_two (b:Nat) (x y:Nat) (w:World) (h0:w.cell? (aD b 0)=some (.int .u64 (x:Int))) (h1:w.cell? (aD b 1)=some (.int .u64 (y:Int))) (hx:x<18446744073709551616) (hy:y<18446744073709551616) :
  Calls Tryz.prog 75 #[.slice (some (aD b 0)) 2 2] w fun e w'=>e=.returned (.int .u64 ((x|||y:Nat):Int))/\w' = w:=by
 have h:=union_any (some (aD b 0)) 2 [x,y] w ⟨by simp,fun i hi=>⟨b,0,rfl,by
  rw[Nat.zero_add];have hi':i<2:=hi
  match i,hi' with
  | 0,_ => exact h0
  | 1,_ => exact h1⟩⟩ (fun z hz => by
  rcases List.mem_cons.1 hz with e | e
  ·omega
  ·rw[List.mem_singleton] at e; omega)
 have e:orL [x,y]=x|||y:=by unfold orL; simp
 rw[e] at h;exact h
theorem setOf_one (b:Nat) (n:Nat) (w:World) (h0:w.cell? (aD b 0)=some (.int .i64 (n:Int))) (hn:n<64) :
  Calls Tryz.prog 44 #[.slice (some (aD b 0)) 1 1] w fun e w'=>e=.returned (.int .u64 ((2 ^ n:Nat):Int))/\w' = w:=by
 have h:=setOf_any (some (aD b 0)) 1 [(n:Int)] w ⟨by simp,fun i hi=>⟨b,0,rfl,by
  have hi':i<1:=hi;obtain rfl:i=0:=by omega
  exact h0⟩⟩ (fun z hz=>by rw[List.mem_singleton] at hz; omega)
 rw[setN_one] at h;exact h
theorem outK_any (k:Int) (w:World):Calls Tryz.prog 137 #[.int .i64 k] w fun e w'=>e=.returned (.bool (outK k))/\w' = w:=by
 have hO:outK k=(decide (k=7) || decide (k=8) || decide (k=9) || decide (k=10)):=by
  unfold outK;rw[Bool.eq_iff_iff];simp only[Bool.and_eq_true,Bool.or_eq_true,decide_eq_true_eq];omega
 by_cases h7:k=7
 ·subst h7;go_enter Tryz.func137,Tryz.ntmps137;go_wp2;go_ret;exact⟨rfl,rfl⟩
 by_cases h8:k=8
 ·subst h8;go_enter Tryz.func137,Tryz.ntmps137;go_wp2;go_ret;exact⟨rfl,rfl⟩
 by_cases h9:k=9
 ·subst h9;go_enter Tryz.func137,Tryz.ntmps137;go_wp2;go_ret;exact⟨rfl,rfl⟩
 by_cases h10:k=10
 ·subst h10;go_enter Tryz.func137,Tryz.ntmps137;go_wp2;go_ret;exact⟨rfl,rfl⟩
 have HO:Hid (outK k=false):=by show _=_; rw[hO,decide_eq_false h7,decide_eq_false h8,decide_eq_false h9,decide_eq_false h10]; rfl
 clear hO;go_enter Tryz.func137,Tryz.ntmps137;go_wp2;go_ret;exact⟨ret_bool HO.out.symm,rfl⟩
end Go.Proofs.YtlpbelhfpoilpabGreatDoor
namespace Go.Scout
open Go.RowKit
theorem bitsN_len:∀ (f x:Nat),x<=f->x<2 ^ 64->bitsN x=Lib.bitLen x:=by
 intro f
 induction f with
 | zero =>
  intro x hx _;obtain rfl:x=0:=by omega
  rw[bitsN_zero];rfl
 | succ f ih =>
  intro x hx h;by_cases h0:x=0
  ·subst h0;rw[bitsN_zero];rfl
  ·rw[bitsN_pos (by omega),Lib.bitLen_half x h0 h,ih (x / 2) (by omega) (by omega),Nat.add_comm]
theorem bitsN_le64 (x:Nat) (h:x<2 ^ 64):bitsN x<=64:=by
 have key:∀ (f x:Nat),x<2 ^ f->bitsN x<=f:=by
  intro f
  induction f with
  | zero =>
   intro x hx;obtain rfl:x=0:=by omega
   rw[bitsN_zero]; omega
  | succ f ih =>
   intro x hx;by_cases h0:x=0
   ·subst h0; rw[bitsN_zero]; omega
   ·rw[bitsN_pos (by omega)];have:=ih (x / 2) (by rw[Nat.pow_succ] at hx; omega);omega
 exact key 64 x h
theorem sumN_le (l:List Nat):sumN l<=topN:=by rw[sumN_eq]; exact Nat.min_le_right _ _
theorem sum_take {l:List Nat} {k:Nat} (hk:k<l.length):(l.take (k+1)).sum=(l.take k).sum+l.getD k 0/\(l.take (k+1)).sum<=l.sum:=by
 have e:l.getD k 0=l[k]:=by simp[List.getD,hk]
 refine⟨by rw[List.take_succ_eq_append_getElem hk,e,List.sum_append]; simp,?_⟩;have h:l.sum=(l.take (k+1)).sum+(l.drop (k+1)).sum:=by rw[<- List.sum_append,List.take_append_drop]
 omega
theorem sumN_over {l:List Nat} {k:Nat} (hk:k<l.length) (h:topN-sumN (l.take k)<l.getD k 0):sumN l=topN:=by
 obtain⟨h1,h2⟩:=sum_take hk;rw[sumN_eq] at h ⊢;omega
theorem sumN_step' {l:List Nat} {k:Nat} (hk:k<l.length) (h:¬ topN-sumN (l.take k)<l.getD k 0):sumN (l.take (k+1))=sumN (l.take k)+l.getD k 0:=by
 have e:l.getD k 0=l[k]:=by simp[List.getD,hk]
 have h1:sumN (l.take (k+1))=plusN (sumN (l.take k)) (l.getD k 0):=by
  rw[List.take_succ_eq_append_getElem hk,e];unfold sumN;rw[List.foldl_append];rfl
 have:=sumN_le (l.take k);rw[h1];unfold plusN;omega
theorem timesN_hi {a b:Nat} (h:0<a*b / 18446744073709551616):timesN a b=18446744073709551615:=by
 unfold timesN topN;omega
theorem timesN_lo {a b:Nat} (h:¬ 0<a*b / 18446744073709551616):timesN a b=a*b % 18446744073709551616:=by
 unfold timesN topN;omega
theorem nats_alloc (w:World) (xs:List Nat) (t:TypeId) (hl:xs.length<=1000):NatsAt (w.alloc (.cells (xs.map fun (x:Nat)=>Value.int .u64 (x:Int)).toArray t)) (some (aD w.heap.size 0)) xs:=by
 refine⟨hl,fun i hi=>⟨w.heap.size,0,rfl,?_⟩⟩;simp only[World.cell?,bQ3 w _];simp[List.getD,hi]
end Go.Scout
namespace Go.Proofs.YtlpbelhfpoilpabGreatDoor
open Go.RowKit Go.Scout Go.Shelf
def Tryz.bits_ren:Go.Shelf.Ren:=⟨fun | 129=>148 | 264=>147 | n=>n,fun | 3=>3 | 4=>4 | 5=>5 | 9=>9 | 46=>74 | 53=>37 | n=>n,fun | n=>n⟩
theorem Tryz.len64:Go.Proofs.Lays.n129 Tryz.prog Tryz.bits_ren:={
 mixed:=by kernel_rfl
 f129:=Tryz.func148.trans (congrArg some (by kernel_rfl))
 t3:=Tryz.underlying3
 a3:=Tryz.isAgg3
 z3:=Tryz.sizeOf3
 v3:=Tryz.zeroValue3
 t4:=Tryz.underlying4
 a4:=Tryz.isAgg4
 z4:=Tryz.sizeOf4
 v4:=Tryz.zeroValue4
 t5:=Tryz.underlying5
 a5:=Tryz.isAgg5
 z5:=Tryz.sizeOf5
 v5:=Tryz.zeroValue5
 t9:=Tryz.underlying9
 a9:=Tryz.isAgg9
 z9:=Tryz.sizeOf9
 v9:=Tryz.zeroValue9
 t46:=Tryz.underlying74
 a46:=Tryz.isAgg74
 z46:=Tryz.sizeOf74
 v46:=Tryz.zeroValue74
 t53:=Tryz.underlying37
 a53:=Tryz.isAgg37
 z53:=Tryz.sizeOf37
 v53:=Tryz.zeroValue37 }
theorem Tryz.mul64:Go.Proofs.Lays.n264 Tryz.prog Tryz.bits_ren:={
 mixed:=by kernel_rfl
 f264:=Tryz.func147.trans (congrArg some (by kernel_rfl))
 t46:=Tryz.underlying74
 a46:=Tryz.isAgg74
 z46:=Tryz.sizeOf74
 v46:=Tryz.zeroValue74
 t53:=Tryz.underlying37
 a53:=Tryz.isAgg37
 z53:=Tryz.sizeOf37
 v53:=Tryz.zeroValue37 }
theorem len64_any (x:Nat) (w:World) (hx:x<=topN):Calls Tryz.prog 148 #[.int .u64 (x:Int)] w fun e w'=>e=.returned (.int .i64 (bitsN x:Nat))/\w' = w:=by
 have h:=Go.Proofs.Any.bits_Len64 Tryz.len64 (x:Int) w (by omega) (by unfold topN at hx; omega);have e:Lib.bitLen (x:Int).toNat=bitsN x:=by rw[Int.toNat_natCast]; exact (bitsN_len x x (Nat.le_refl _) (by unfold topN at hx; omega)).symm
 rw[e] at h;exact h
theorem mul64_any (x y:Nat) (w:World) (hx:x<=topN) (hy:y<=topN):Calls Tryz.prog 147 #[.int .u64 (x:Int),.int .u64 (y:Int)] w fun e w'=>e=.returned (.tuple #[.int .u64 ((x*y / 18446744073709551616:Nat):Int),.int .u64 ((x*y % 18446744073709551616:Nat):Int)])/\w' = w:=
 Go.Proofs.Any.bits_Mul64 Tryz.mul64 x y (by unfold topN at hx; omega) (by unfold topN at hy; omega) w
theorem timesP_any (a b:Nat) (w:World) (ha:a<=topN) (hb:b<=topN):Calls Tryz.prog 138 #[.int .u64 (a:Int),.int .u64 (b:Int)] w fun e w'=>e=.returned (.int .u64 (timesN a b:Nat))/\w' = w:=by
 have hm:=mul64_any a b w ha hb;have HH:Hid _:=@timesN_hi a b;have HL:Hid _:=@timesN_lo a b;generalize a*b / 18446744073709551616=hi at *;generalize a*b % 18446744073709551616=lo at *;generalize timesN a b=t at *;clear ha hb;go_enter Tryz.func138,Tryz.ntmps138;go_wp2_with fail;refine hm.mono ?_;clear hm;rintro e w2 ⟨rfl,rfl⟩;by_cases h:0<hi
 ·go_wp2;go_ret;exact⟨ret_int (by rw[HH.out h]; rfl),rfl⟩
 ·go_wp2;go_ret;exact⟨ret_int (by rw[HL.out h]),rfl⟩
theorem sum_any (ao:Option Addr) (cap:Nat) (xs:List Nat) (w:World) (hx:NatsAt w ao xs) (hs:∀ x∈xs,x<=topN) :
  Calls Tryz.prog 139 #[.slice ao xs.length cap] w fun e w'=>e=.returned (.int .u64 (sumN xs:Nat))/\w' = w:=by
 have hl:=hx.1;have HX:Hid _:=hx;have HS:Hid _:=hs;have HE:Hid (sumN (xs.take xs.length)=sumN xs):=by show _=_; rw[List.take_length]
 clear hx hs;go_enter Tryz.func139,Tryz.ntmps139;go_wp2;go_loopw [3,8] (fun sv iv wr=>∃ k:Nat,k<=xs.length/\iv=.int .i64 k/\(∃ s:Nat,sv=.int .u64 (s:Int)/\Hid (s=sumN (xs.take k)))/\wr=w) (fun _ iv _=>xs.length-(intOf iv).toNat)
 case atStart=>exact⟨0,Nat.zero_le _,rfl,⟨0,rfl,rfl⟩,rfl⟩
 case round=>
  obtain⟨k,hk,rfl,⟨s,rfl,hs⟩,rfl⟩:=hrel;by_cases hlt:k<xs.length
  ·obtain⟨b,off,rfl,hc⟩:=NatsAt.get HX.out hlt;have hck:=hc k hlt;have hm:=HS.out _ (getD_memR hlt (d:=0));have HO:Hid _:=@sumN_over xs k hlt;have HT:Hid _:=@sumN_step' xs k hlt;have hsl:s<=18446744073709551615:=by rw[hs.out]; exact sumN_le _
   rw[<- hs.out] at HO HT;have hm':xs.getD k 0<=18446744073709551615:=hm;clear hc hm;generalize xs.getD k 0=x at *;by_cases hov:18446744073709551615-s<x
   ·have HV:Hid (sumN xs=18446744073709551615):=HO.out hov;clear HO HT hs;go_wp2;go_ret;exact⟨ret_int (by rw[HV.out]; rfl),rfl⟩
   ·have HV:Hid _:=HT.out hov;clear HO HT hs;go_wp2;go_roundw
    case rel=>exact⟨k+1,by omega,by go_num,⟨s+x,by go_num,HV.out.symm⟩,trivial⟩
    case measure=>simp[intOf]; omega
  ·obtain rfl:k=xs.length:=by omega
   have HV:Hid (s=sumN xs):=hs.out.trans HE.out;clear hs;go_wp2;go_ret;exact⟨ret_int (by rw[HV.out]),rfl⟩
theorem sum_made (w:World) (xs:List Nat) (hl:xs.length<=1000) (hs:∀ x∈xs,x<=topN) :
  Calls Tryz.prog 139 #[.slice (some (aD w.heap.size 0)) xs.length xs.length] (w.alloc (.cells (xs.map fun (x:Nat)=>Value.int .u64 (x:Int)).toArray 37)) fun e w'=>e=.returned (.int .u64 (sumN xs:Nat))/\w' = w.alloc (.cells (xs.map fun (x:Nat)=>Value.int .u64 (x:Int)).toArray 37):=
 sum_any _ _ xs _ (nats_alloc w xs _ hl) hs
theorem sum2 (w:World) (a b:Nat) (ha:a<=topN) (hb:b<=topN) :
  Calls Tryz.prog 139 #[.slice (some (aD w.heap.size 0)) 2 2] (w.alloc (.cells #[.int .u64 (a:Int),.int .u64 (b:Int)] 37)) fun e w'=>e=.returned (.int .u64 (sumN [a,b]:Nat))/\Below w.heap.size w w':=
 (sum_made w [a,b] (by simp) (fun x hx=>by simp at hx; rcases hx with rfl | rfl <;> assumption)).mono fun _ _ ⟨h1,h2⟩=>⟨h1,by rw[h2]; exact bQ2 _ _⟩
theorem sum3 (w:World) (a b c:Nat) (ha:a<=topN) (hb:b<=topN) (hc:c<=topN) :
  Calls Tryz.prog 139 #[.slice (some (aD w.heap.size 0)) 3 3] (w.alloc (.cells #[.int .u64 (a:Int),.int .u64 (b:Int),.int .u64 (c:Int)] 37)) fun e w'=>e=.returned (.int .u64 (sumN [a,b,c]:Nat))/\Below w.heap.size w w':=
 (sum_made w [a,b,c] (by simp) (fun x hx=>by simp at hx; rcases hx with rfl | rfl | rfl <;> assumption)).mono fun _ _ ⟨h1,h2⟩=>⟨h1,by rw[h2]; exact bQ2 _ _⟩
theorem sum4 (w:World) (a b c d:Nat) (ha:a<=topN) (hb:b<=topN) (hc:c<=topN) (hd:d<=topN) :
  Calls Tryz.prog 139 #[.slice (some (aD w.heap.size 0)) 4 4] (w.alloc (.cells #[.int .u64 (a:Int),.int .u64 (b:Int),.int .u64 (c:Int),.int .u64 (d:Int)] 37)) fun e w'=>e=.returned (.int .u64 (sumN [a,b,c,d]:Nat))/\Below w.heap.size w w':=
 (sum_made w [a,b,c,d] (by simp) (fun x hx=>by simp at hx; rcases hx with rfl | rfl | rfl | rfl <;> assumption)).mono fun _ _ ⟨h1,h2⟩=>⟨h1,by rw[h2]; exact bQ2 _ _⟩
theorem joinWork_any (k:Int) (l r s:Nat) (w:World) (hl:l<=topN) (hr:r<=topN) (hs:s<=topN) :
  Calls Tryz.prog 140 #[.int .i64 k,.int .u64 (l:Int),.int .u64 (r:Int),.int .u64 (s:Int)] w fun e w'=>e=.returned (.int .u64 (workP k l r s:Nat))/\Below w.heap.size w w':=by
 by_cases h4:k=4
 ·subst h4;have h:=sum4 w l r r s hl hr hr hs;have hw:workP 4 l r s=sumN [l,r,r,s]:=rfl;rw[hw];generalize sumN [l,r,r,s]=x at *;clear hl hr hs hw;go_enter Tryz.func140,Tryz.ntmps140;go_wp2_with fail;refine h.mono ?_;clear h;rintro e w2 ⟨rfl,hb⟩;go_wp2;go_ret;exact⟨rfl,hb⟩
 by_cases h5:k=5
 ·subst h5;have h:=sum3 w l r s hl hr hs;have hw:workP 5 l r s=sumN [l,r,s]:=rfl;rw[hw];generalize sumN [l,r,s]=x at *;clear hl hr hs hw;go_enter Tryz.func140,Tryz.ntmps140;go_wp2_with fail;refine h.mono ?_;clear h;rintro e w2 ⟨rfl,hb⟩;go_wp2;go_ret;exact⟨rfl,hb⟩
 have h:=timesP_any l r w hl hr;have hw:workP k l r s=timesN l r:=by unfold workP; rw[if_neg h4,if_neg h5]
 rw[hw];generalize timesN l r=x at *;clear hl hr hs hw;go_enter Tryz.func140,Tryz.ntmps140;go_wp2_with fail;refine h.mono ?_;clear h;rintro e w2 ⟨rfl,rfl⟩;go_wp2;go_ret;exact⟨rfl,Below.refl _ _⟩
theorem sortWork_any (l:Nat) (w:World) (hl:l<=topN) :
  Calls Tryz.prog 141 #[.int .u64 (l:Int)] w fun e w'=>e=.returned (.int .u64 (timesN l (bitsN l+1):Nat))/\w' = w:=by
 have h1:=len64_any l w hl;have hb:bitsN l<=64:=bitsN_le64 l (by unfold topN at hl; omega);have h2:=timesP_any l (bitsN l+1) w hl (by unfold topN; omega);generalize bitsN l=n at *;generalize timesN l (n+1)=x at *;clear hl;go_enter Tryz.func141,Tryz.ntmps141;go_wp2_with fail;refine h1.mono ?_;clear h1;rintro e w2 ⟨rfl,rfl⟩;go_wp2_with fail;refine h2.mono ?_;clear h2;rintro e w3 ⟨rfl,rfl⟩;go_wp2;go_ret;exact⟨rfl,rfl⟩
end Go.Proofs.YtlpbelhfpoilpabGreatDoor
namespace Go.Scout
open Go.RowKit
theorem IntsAt.take {w:World} {ao:Option Addr} {xs:List Int} (h:IntsAt w ao xs) (k:Nat):IntsAt w ao (xs.take k):=by
 refine⟨by have:=h.1; rw[List.length_take]; omega,fun i hi=>?_⟩;rw[List.length_take] at hi;obtain⟨b,off,e,hc⟩:=h.2 i (by omega);refine⟨b,off,e,?_⟩;rw[hc];simp[List.getD,show i<k by omega,show i<xs.length by omega]
theorem countsB_bad {l:List Int} {k:Nat} (hk:k<l.length) (h:l.getD k 0≠k):countsB l=false:=by
 unfold countsB;rw[List.all_eq_false];exact⟨k,List.mem_range.2 hk,by rw[decide_eq_false h]; simp⟩
theorem countsB_all {l:List Int} (h:∀ i,i<l.length->l.getD i 0=i):countsB l=true:=by
 unfold countsB;rw[List.all_eq_true];exact fun i hi=>decide_eq_true (h i (List.mem_range.1 hi))
end Go.Scout
namespace Go.Proofs.YtlpbelhfpoilpabGreatDoor
open Go.RowKit Go.Scout
theorem index_any (ao:Option Addr) (cap:Nat) (xs:List Int) (v:Int) (w:World) (hx:IntsAt w ao xs) :
  Calls Tryz.prog 116 #[.slice ao xs.length cap,.int .i64 v] w fun e w'=>∃ r:Int,e=.returned (.int .i64 r)/\Hid (0<=r↔v∈xs)/\w' = w:=by
 have hl:=hx.1;go_enter Tryz.func116,Tryz.ntmps116;go_wp2;go_loop [8] (fun i=>∃ k:Nat,k<=xs.length/\i=.int .i64 k/\v ∉ xs.take k) (fun i=>xs.length-(intOf i).toNat)
 case atStart=>exact⟨0,Nat.zero_le _,rfl,by simp⟩
 case round=>
  obtain⟨k,hk,rfl,hn⟩:=hrel;by_cases hlt:k<xs.length
  ·obtain⟨b,off,rfl,hc⟩:=hx.get hlt;have h1:=hc k hlt;have HM:Hid _:=mem_take_succ (v:=v) hlt;have HN:Hid _:=hn;have HG:Hid (xs.getD k 0∈xs):=by
    show _∈_
    exact getD_memR hlt
   clear hc hx hn;obtain⟨x,hxe⟩:∃ x,x=xs.getD k 0:=⟨_,rfl⟩
   rw[<- hxe] at h1 HM HG;clear hxe;by_cases hv:v=x
   ·have hbv:(v==x)=true:=by simp[hv]
    go_wp2;go_ret;exact⟨k,rfl,⟨fun _=>HG.out,fun _=>by omega⟩,rfl⟩
   ·have hbv:(v==x)=false:=by simp[hv]
    go_wp2;go_round
    case rel=>exact⟨k+1,by omega,by go_num,fun e=>by
     rcases HM.out.1 e with e | e
     ·exact HN.out e
     ·exact hv e.symm⟩
    case measure=>simp[intOf]; omega
  ·have e:k=xs.length:=by omega
   rw[e,List.take_length] at hn;have HN:Hid _:=hn;clear hn;go_wp2;go_ret;exact⟨-1,rfl,⟨fun h=>absurd h (by omega),fun h=>absurd h HN.out⟩,rfl⟩
theorem contains_any (ao:Option Addr) (cap:Nat) (xs:List Int) (v:Int) (w:World) (hx:IntsAt w ao xs) :
  Calls Tryz.prog 90 #[.slice ao xs.length cap,.int .i64 v] w fun e w'=>e=.returned (.bool (decide (v∈xs)))/\w' = w:=by
 have h:=index_any ao cap xs v w hx;clear hx;go_enter Tryz.func90,Tryz.ntmps90;go_wp2_with fail;refine h.mono ?_;clear h;rintro e w2 ⟨r,rfl,HB,rfl⟩;go_wp2;go_ret;exact⟨ret_bool (by rw[Bool.eq_iff_iff,decide_eq_true_eq,decide_eq_true_eq]; exact HB.out),rfl⟩
theorem equal_any (ao bo:Option Addr) (cap cap':Nat) (xs ys:List Int) (w:World) (hx:IntsAt w ao xs) (hy:IntsAt w bo ys) :
  Calls Tryz.prog 96 #[.slice ao xs.length cap,.slice bo ys.length cap'] w fun e w'=>e=.returned (.bool (decide (xs=ys)))/\Below w.heap.size w w':=by
 have hl:=hx.1;have hl':=hy.1;by_cases hle:xs.length=ys.length
 ·have HLE:Hid _:=hle;have hne:((xs.length:Int) != (ys.length:Int))=false:=by rw[hle]; simp
  have hk':xs.length<=ys.length:=by omega
  clear hle;go_enter Tryz.func96,Tryz.ntmps96;go_wp2;go_loopw [13] (fun i wr=>∃ k:Nat,k<=xs.length/\i=.int .i64 k/\Hid (xs.take k=ys.take k)/\∃ n,wr=w.drewN n) (fun i _=>xs.length-(intOf i).toNat)
  case atStart=>exact⟨0,Nat.zero_le _,rfl,rfl,0,rfl⟩
  case round=>
   obtain⟨k,hk,rfl,HE,n,rfl⟩:=hrel;by_cases hlt:k<xs.length
   ·have hlty:k<ys.length:=by omega
    obtain⟨b,off,rfl,hc⟩:=hx.get hlt;obtain⟨b',off',rfl,hc'⟩:=hy.get hlty;have h1:=hc k hlt;have h2:=hc' k hlty;clear hc hc' hx hy;obtain⟨x,hxe⟩:∃ x,x=xs.getD k 0:=⟨_,rfl⟩
    obtain⟨y,hye⟩:∃ y,y=ys.getD k 0:=⟨_,rfl⟩
    rw[<- hxe] at h1;rw[<- hye] at h2;have HX:Hid _:=hxe;have HY:Hid _:=hye;clear hxe hye;by_cases hv:x=y
    ·have hbv:(x != y)=false:=by simp[hv]
     go_wp2;go_quiet (fail);go_wp2;go_roundw
     case rel=>exact⟨k+1,by omega,by go_num,take_eq_succ hlt hlty HE.out (by rw[<- HX.out,<- HY.out]; exact hv),_,rfl⟩
     case measure=>simp[intOf]; omega
    ·have hbv:(x != y)=true:=by simp[hv]
     go_wp2;go_quiet (fail);go_wp2;go_ret;exact⟨ret_bool (decide_eq_false (fun e=>hv (by rw[HX.out,HY.out,e]))).symm,below_drewN (below_drewN (Below.refl _ _) _) _⟩
   ·have HK:Hid (k=xs.length):=by show _=_; omega
    go_wp2;go_ret;exact⟨ret_bool (by refine (decide_eq_true ?_).symm; have:=HE.out; rw[HK.out,List.take_length,HLE.out,List.take_length] at this; exact this),below_drewN (Below.refl _ _) _⟩
 ·have hne:((xs.length:Int) != (ys.length:Int))=true:=by rw[bne_iff_ne]; omega
  have HLE:Hid _:=hle;clear hle;go_enter Tryz.func96,Tryz.ntmps96;go_wp2;go_ret;exact⟨ret_bool (decide_eq_false (fun e=>HLE.out (by rw[e]))).symm,Below.refl _ _⟩
theorem begins_any (ao bo:Option Addr) (cap cap':Nat) (xs ys:List Int) (w:World) (hx:IntsAt w ao xs) (hy:IntsAt w bo ys) (hcap:xs.length<=cap) :
  Calls Tryz.prog 135 #[.slice ao xs.length cap,.slice bo ys.length cap'] w fun e w'=>e=.returned (.bool (startsB xs ys))/\Below w.heap.size w w':=by
 have hl:=hx.1;have hl':=hy.1;by_cases hle:ys.length<=xs.length
 ·have HS:Hid (startsB xs ys=decide (xs.take ys.length=ys)):=by
   show _=_
   unfold startsB;rw[decide_eq_true hle,Bool.true_and]
  have hE:=equal_any ao bo cap cap' (xs.take ys.length) ys w (hx.take _) hy;rw[List.length_take,Nat.min_eq_left hle] at hE;generalize startsB xs ys=S at *;generalize decide (xs.take ys.length=ys)=B at *;clear hx hy;go_enter Tryz.func135,Tryz.ntmps135;go_wp2_with fail;refine hE.mono ?_;clear hE;rintro e w2 ⟨rfl,hb⟩;go_wp2;go_ret;exact⟨ret_bool HS.out.symm,hb⟩
 ·have HS:Hid (startsB xs ys=false):=by
   show _=_
   unfold startsB;rw[decide_eq_false hle,Bool.false_and]
  generalize startsB xs ys=S at *;clear hx hy;go_enter Tryz.func135,Tryz.ntmps135;go_wp2;go_ret;exact⟨ret_bool HS.out.symm,Below.refl _ _⟩
theorem countsUp_any (ao:Option Addr) (cap:Nat) (xs:List Int) (w:World) (hx:IntsAt w ao xs) :
  Calls Tryz.prog 151 #[.slice ao xs.length cap] w fun e w'=>e=.returned (.bool (countsB xs))/\w' = w:=by
 have hl:=hx.1;have HB:Hid _:=@countsB_bad xs;have HA:Hid _:=@countsB_all xs;generalize countsB xs=C at *;go_enter Tryz.func151,Tryz.ntmps151;go_wp2;go_loop [7] (fun i=>∃ k:Nat,k<=xs.length/\i=.int .i64 k/\Hid (∀ j,j<k->xs.getD j 0=j)) (fun i=>xs.length-(intOf i).toNat)
 case atStart=>exact⟨0,Nat.zero_le _,rfl,fun j hj=>absurd hj (by omega)⟩
 case round=>
  obtain⟨k,hk,rfl,hn⟩:=hrel;by_cases hlt:k<xs.length
  ·obtain⟨b,off,rfl,hc⟩:=hx.get hlt;have h1:=hc k hlt;clear hc hx;have HBk:Hid _:=HB.out hlt;obtain⟨x,hxe⟩:∃ x,x=xs.getD k 0:=⟨_,rfl⟩
   rw[<- hxe] at h1 HBk;have HX:Hid _:=hxe;clear hxe;by_cases hv:x=(k:Int)
   ·have hbv:(x != (k:Int))=false:=by simp[hv]
    have HV:Hid _:=hv;clear hv;go_wp2;go_round
    case rel=>exact⟨k+1,by omega,by go_num,fun j hj=>by
     rcases Nat.lt_or_ge j k with h | h
     ·exact hn.out j h
     ·obtain rfl:j=k:=by omega
      rw[<- HX.out]; exact HV.out⟩
    case measure=>simp[intOf]; omega
   ·have hbv:(x != (k:Int))=true:=by simp[hv]
    have HV:Hid _:=HBk.out hv;go_wp2;go_ret;exact⟨ret_bool HV.out.symm,rfl⟩
  ·have HV:Hid (C=true):=HA.out (fun i hi=>hn.out i (by omega));go_wp2;go_ret;exact⟨ret_bool HV.out.symm,rfl⟩
end Go.Proofs.YtlpbelhfpoilpabGreatDoor
namespace Go.Scout
open Go.RowKit
theorem want_take (q:QueryV) {k:Nat} (hk:k<q.ord.xs.length):(q.ord.xs.take (k+1)).map (fun p=>q.sel.xs.getD p.toNat 0)=(q.ord.xs.take k).map (fun p=>q.sel.xs.getD p.toNat 0)++[q.sel.xs.getD (q.ord.xs.getD k 0).toNat 0]:=by
 have e:q.ord.xs.getD k 0=q.ord.xs[k]:=by simp[List.getD,hk]
 rw[List.take_succ_eq_append_getElem hk,List.map_append,e];rfl
theorem ownsRow_base {w:World} {base base':Nat} {e:TypeId} {size:Nat} {v:Value} {n:Nat} {xs:List Value} (h:w.ownsRow base e size v n xs) (hb:base'<=base):w.ownsRow base' e size v n xs:=ownsRow_move h hb (fun _ _ _=>rfl)
theorem allB_get {xs:List Int} {n:Int} (h:allB xs n=true) {k:Nat} (hk:k<xs.length):0<=xs.getD k 0/\xs.getD k 0<n:=by
 unfold allB at h;rw[List.all_eq_true] at h;have:=h _ (getD_memR hk (d:=0))
 simpa using this
end Go.Scout
namespace Go.Proofs.YtlpbelhfpoilpabGreatDoor
open Go.RowKit Go.Scout
theorem columnsOfOrder_any (q:QueryV) (w:World) (hq:q.At w) (hos:allB q.ord.xs q.sel.xs.length=true) (hol:q.ord.xs.length<=1000) :
  Calls Tryz.prog 93 #[.agg q.cells] w fun e w'=>∃ v,e=.returned v/\w'.ownsRow w.heap.size 3 1 v (wantN q).length ((wantN q).map (Value.int .i64))/\Below w.heap.size w w':=by
 obtain⟨w1,hw1⟩:∃ x,x=w.alloc (.cells q.cells 26):=⟨_,rfl⟩
 have hk1:Below w.heap.size w w1:=by rw[hw1]; exact bQ2 _ _
 have hbox:GB w1 w.heap.size 26 q.cells:=by rw[hw1]; exact bQ3 _ _
 have q5:w1.cell? (aD w.heap.size 5)=some q.sel.val:=hbox.cell 5;have q6:w1.cell? (aD w.heap.size 6)=some q.ord.val:=hbox.cell 6;have hWC:w.alloc (.cells q.cells 26)=w1:=hw1.symm;have HSE:Hid (IntsAt w q.sel.ad q.sel.xs):=hq.sel;have HOR:Hid (IntsAt w q.ord.ad q.ord.xs):=hq.ord;have HOS:Hid _:=hos;have HWT:Hid (∀ k,k<q.ord.xs.length->_):=fun k hk=>@want_take q k hk
 have HWN:Hid (wantN q=(q.ord.xs.take q.ord.xs.length).map (fun p=>q.sel.xs.getD p.toNat 0)):=by show _=_; rw[List.take_length]; rfl
 have hsl:=hq.sel.1;have HL:Hid (∀ k,((q.ord.xs.take k).map (fun p=>q.sel.xs.getD p.toNat 0)).length<=1000):=fun k=>by rw[List.length_map,List.length_take]; omega
 clear hw1 hbox hq hos;obtain⟨src,wad,wcap,wh,group,keys,sums,⟨ea,ec,sel⟩,⟨oa,oc,ord⟩⟩:=q;unfold QueryV.cells IntsV.val at *;simp only at *;generalize wantN ⟨src,wad,wcap,wh,group,keys,sums,⟨ea,ec,sel⟩,⟨oa,oc,ord⟩⟩=WN at *;obtain⟨W,hW⟩:∃ W:Nat->List Int,W=fun k=>(ord.take k).map (fun p=>sel.getD p.toNat 0):=⟨_,rfl⟩
 have HWT':Hid (∀ k,k<ord.length->W (k+1)=W k++[sel.getD (ord.getD k 0).toNat 0]):=fun k hk=>by rw[hW]; exact HWT.out k hk
 have HWN':Hid (WN=W ord.length):=by show _=_; rw[hW]; exact HWN.out
 have HL':Hid (∀ k,(W k).length<=1000):=fun k=>by rw[hW]; exact HL.out k
 have HW0:Hid (W 0=[]):=by show _=_; rw[hW]; rfl
 clear hW HWT HWN HL;go_enter Tryz.func93,Tryz.ntmps93;go_wp2;clear hWC;go_loopw [3,9] (fun v iv wr=>∃ k:Nat,k<=ord.length/\iv=.int .i64 k/\Hid (wr.ownsRow w1.heap.size 3 1 v (W k).length ((W k).map (Value.int .i64)))/\Below w1.heap.size w1 wr) (fun _ iv _=>ord.length-(intOf iv).toNat)
 case atStart=>exact⟨0,Nat.zero_le _,rfl,by rw[HW0.out]; exact World.ownsRow_nil _ _ _ _,Below.refl _ _⟩
 case round=>
  obtain⟨k,hk,rfl,HO,hbr⟩:=hrel;have q5':=cB hbr q5;by_cases hlt:k<ord.length
  ·have k1:=bQ1 hk1 hbr;obtain⟨ob,oo,rfl,hoc⟩:=IntsAt.get HOR.out hlt;have hok:=cB k1 (hoc k hlt);have hpl:=allB_get HOS.out hlt;have HT:Hid _:=HWT'.out k hlt;have hlen:=HL'.out k;clear hoc;generalize ord.getD k 0=p at *;obtain⟨n,rfl⟩:=Int.eq_ofNat_of_zero_le hpl.1;have hn:n<sel.length:=by omega
   obtain⟨eb,eo,rfl,hec⟩:=IntsAt.get HSE.out hn;have hek:=cB k1 (hec n hn);clear hec;rw[Int.toNat_natCast] at HT;generalize sel.getD n 0=x at *;generalize hLk:W k=L at *;clear hLk;obtain⟨ra,rm,rc,rfl⟩:=ownsRow_slice HO.out;obtain⟨v',w5,hr5,ho5,hk5,⟨ua,um,uc,rfl⟩,-⟩:=push_int wr w1.heap.size (.slice ra rm rc) L HO.out (by omega) hbr.size x 22;have hb5:Below w1.heap.size w1 w5:=hbr.trans (hk5.below hbr.size (fun b hb e=>by have:=(ownsRow_lt HO.out e).1; omega));rw[<- HT.out] at ho5;have HO5:Hid _:=ho5;have HB5:Hid _:=hb5;clear ho5 hb5 hk5 HO HT;go_wp2_with (first | (at_builtin; refine wpList_append_run rfl (.tmp 13) (.tmp 19) 22 rfl (.slice ra rm rc) (.slice (some (aD wr.heap.size 0)) 1 1) (.slice ua um uc) w5 rfl rfl hr5 ?_));clear hr5;go_wp2;go_roundw
   case rel=>exact⟨k+1,by omega,by go_num,HO5.out,HB5.out⟩
   case measure=>simp[intOf]; omega
  ·obtain rfl:k=ord.length:=by omega
   rw[<- HWN'.out] at HO;have HF:Hid (wr.ownsRow w.heap.size 3 1 _ WN.length (WN.map (Value.int .i64))):=ownsRow_base HO.out hk1.size;have HB:Hid _:=bQ1 hk1 hbr;clear HO hbr;go_wp2;go_ret;exact⟨_,rfl,HF.out,HB.out⟩
structure EndQ (q:QueryV) (kind:Int):Prop where
 places:kind=9->allB q.ord.xs q.sel.xs.length=true
 few:q.ord.xs.length<=1000
theorem endsWell_any (q:QueryV) (kind:Int) (oa:Option Addr) (oc:Nat) (order:List Int) (w:World) (hq:q.At w) (hk:EndQ q kind) (ho:IntsAt w oa order) (hcap:order.length<=oc) :
  Calls Tryz.prog 145 #[.agg q.cells,.int .i64 kind,.slice oa order.length oc] w fun e w'=>e=.returned (.bool (endsP q kind order))/\Below w.heap.size w w':=by
 obtain⟨w1,hw1⟩:∃ x,x=w.alloc (.cells q.cells 26):=⟨_,rfl⟩
 have hk1:Below w.heap.size w w1:=by rw[hw1]; exact bQ2 _ _
 have hbox:GB w1 w.heap.size 26 q.cells:=by rw[hw1]; exact bQ3 _ _
 have q0:w1.cell? (aD w.heap.size 0)=some q.src.val:=hbox.cell 0;have q1:w1.cell? (aD w.heap.size 1)=some (.slice q.wad q.wh.length q.wcap):=hbox.cell 1;have q2:w1.cell? (aD w.heap.size 2)=some (.bool q.group):=hbox.cell 2;have q3:w1.cell? (aD w.heap.size 3)=some q.keys.val:=hbox.cell 3;have q4:w1.cell? (aD w.heap.size 4)=some q.sums.val:=hbox.cell 4;have q5:w1.cell? (aD w.heap.size 5)=some q.sel.val:=hbox.cell 5;have q6:w1.cell? (aD w.heap.size 6)=some q.ord.val:=hbox.cell 6;have hWC:w.alloc (.cells q.cells 26)=w1:=hw1.symm;have hol:=hq.ord.1;have hkl:=hq.keys.1;have HCO:Hid (kind=9->_):=fun e=>columnsOfOrder_any q w1 (hq.below hk1) (hk.places e) hk.few
 have HBE:Hid (∀ ba bc ys x,Below w1.heap.size w1 x->IntsAt x ba ys->_):=fun ba bc ys x hb hy=>begins_any oa ba oc bc order ys x (IntsAt.below (bQ1 hk1 hb) ho) hy hcap
 have HCU:Hid _:=countsUp_any q.ord.ad q.ord.cap q.ord.xs w1 (IntsAt.below hk1 hq.ord);obtain⟨EP,hEP⟩:∃ EP,EP=endsP q kind order:=⟨_,rfl⟩
 rw[<- hEP];have HWL:Hid ((wantN q).length<=1000):=by show _<=_; unfold wantN; rw[List.length_map]; exact hk.few
 unfold endsP at hEP;have HEQ:Hid _:=hEP;clear hEP;generalize wantN q=WN at *;generalize countsB q.ord.xs=CB at *;have HK1:Hid _:=hk1;have hol':=ho.1;clear hw1 hbox hq hk ho hk1;obtain⟨⟨sa,sc,src⟩,wad,wcap,wh,group,⟨ka,kc,keys⟩,⟨ua,uc,sums⟩,⟨ea,ec,sel⟩,⟨da,dc,ord⟩⟩:=q;unfold QueryV.cells IntsV.val at *;simp only at *;by_cases c0:ord.length=0
 ·have HV:Hid (EP=true):=by show _=_; rw[HEQ.out,if_pos c0]
  have hord:((ord.length:Int)==0)=true:=by rw[c0]; rfl
  clear HEQ HCU HCO HBE c0;go_enter Tryz.func145,Tryz.ntmps145;go_wp2;go_ret;exact⟨ret_bool HV.out.symm,HK1.out⟩
 rw[if_neg c0] at HEQ;have hord:((ord.length:Int)==0)=false:=by rw[beq_eq_false_iff_ne]; omega
 clear c0;by_cases k10:kind=10
 ·have HV:Hid (EP=true):=by show _=_; rw[HEQ.out,if_pos k10]
  subst k10;clear HEQ HCU HCO HBE;go_enter Tryz.func145,Tryz.ntmps145;go_wp2;go_ret;exact⟨ret_bool HV.out.symm,HK1.out⟩
 rw[if_neg k10] at HEQ;by_cases k9:kind=9
 ·have HV:Hid (EP=startsB order WN):=by show _=_; rw[HEQ.out,if_pos k9]
  have hCO:=HCO.out k9;subst k9;clear HEQ HCU HCO;go_enter Tryz.func145,Tryz.ntmps145;go_wp2_with fail;refine hCO.mono ?_;clear hCO;rintro e w2 ⟨v,rfl,hown,hb2⟩;obtain⟨ya,yc,rfl,hya⟩:=ints_own hown (by have:=HWL.out; omega);have hBE:=HBE.out ya yc WN w2 hb2 hya;rw[<- HV.out] at hBE;have HB2:Hid _:=bQ1 HK1.out hb2;clear HBE hown hya hb2;go_wp2_with fail;refine hBE.mono ?_;clear hBE;rintro e w3 ⟨rfl,hb3⟩;have HB3:Hid _:=bQ1 HB2.out hb3;clear hb3;go_wp2;go_ret;exact⟨rfl,HB3.out⟩
 rw[if_neg k9] at HEQ;by_cases k8:kind=8
 ·rw[if_pos k8] at HEQ;subst k8;by_cases hle:ord.length<=keys.length
  ·have HV:Hid (EP=CB):=by show _=_; rw[HEQ.out,decide_eq_true hle,Bool.true_and]
   have hCU:=HCU.out;clear HEQ HCU HCO HBE;go_enter Tryz.func145,Tryz.ntmps145;go_wp2_with fail;refine Calls.mono hCU ?_;clear hCU;rintro e w2 ⟨rfl,rfl⟩;go_wp2;go_ret;exact⟨ret_bool HV.out.symm,HK1.out⟩
  ·have HV:Hid (EP=false):=by show _=_; rw[HEQ.out,decide_eq_false hle,Bool.false_and]
   clear HEQ HCU HCO HBE;go_enter Tryz.func145,Tryz.ntmps145;go_wp2;go_ret;exact⟨ret_bool HV.out.symm,HK1.out⟩
 ·have HV:Hid (EP=false):=by show _=_; rw[HEQ.out,if_neg k8]
  clear HEQ HCU HCO HBE;go_enter Tryz.func145,Tryz.ntmps145;go_wp2;go_ret;exact⟨ret_bool HV.out.symm,HK1.out⟩
end Go.Proofs.YtlpbelhfpoilpabGreatDoor
namespace Go.Scout
open Go.RowKit
def srcL (ts:List TableD) (q:QueryV) (xs:List Int):List Int:=xs.map fun c=>(sourceN ts q.src.xs c:Int)
def eqCols (cs:List CondD):Int × Int × Bool:=
 if cs.length > 1∨(cs.getD 0 cz).op≠0∨(cs.getD 0 cz).not=true∨(cs.getD 0 cz).const=true then (0,0,false) else ((cs.getD 0 cz).left,(cs.getD 0 cz).right,true)
end Go.Scout
