import Derived.Test.YtbcgekghfgcakaaGreatDoorF01
set_option linter.all false
set_option maxRecDepth 100000
set_option maxHeartbeats 16000000
namespace Go.Proofs.Zz
open Go.RowKit Go.Shelf
theorem Hz (a:Addr) (x:World) (c:Int) (h0:0<=c) (h4:c<=4) :
  (Instr.sliceAt 52 (.pointer (some a)) none (some (.int .i64 c)) none).run Tryz.prog x=.ok (.slice (some a) c.toNat 4) x:=by
 have hal:Tryz.prog.arrayLen 52=4:=by kernel_rfl
 have hel:Tryz.prog.elem 52=3:=by kernel_rfl
 rw[run_sliceAt_array_h x 52 a (by rw[hal,hel]; exact Tryz.underlying52) .i64 c h0 (by rw[hal]; omega),hal,hel];simp[slicedAt,Addr.add]
theorem H5 (t:af) (w:World) :
  Calls Tryz.prog 96 #[.agg t.vals] w fun e w'=>e=.returned (.bool (dC t))/\Below w.heap.size w w':=by
 have HBAD:=@Kn t;have HBK:=@Gl t;have HG:=@Gm t;have hkd:=fun m hm=>af.Y5 w t 54 m hm
 generalize dC t=B at *;unfold af.vals;by_cases h1:t.aH<1∨4<t.aH∨t.rows<0∨1000000<t.rows
 ·have HF:=Zh ((HBAD h1).symm);clear HBAD HBK HG hkd;go_enter Tryz.func96,Tryz.ntmps96;go_wp2
  all_goals
   go_ret;exact⟨Qd HF.out,bU _ _⟩
 ·have l1:1<=t.aH:=by omega
  have l2:t.aH<=4:=by omega
  have l3:0<=t.rows:=by omega
  have l4:t.rows<=1000000:=by omega
  have ah2:=Zh HBK;have HG':=Zh HG;have HK:=Zh hkd;clear HBAD HBK HG h1 hkd;have hsl:=fun (a:Addr) (x:World)=>Hz a x t.aH (by omega) (by omega)
  go_enter Tryz.func96,Tryz.ntmps96;go_wp2;go_loop [28] (fun i=>∃ m:Nat,m<=t.aH.toNat/\i=.int .i64 m/\Hid (∀ j,j<m->1<=t.kd j/\t.kd j<=1000000)) (fun i=>t.aH.toNat-(intOf i).toNat)
  case atStart=>exact⟨0,QQ _,rfl,fun j hj=>absurd hj (by omega)⟩
  case round=>
   obtain⟨m,hm,rfl,HM⟩:=hrel;by_cases Hw:m<t.aH.toNat
   ·have anr:(m:Int)<t.aH:=by omega
    have hkm:=HK.out m (by omega);by_cases hk1:t.kd m<1
    ·have HF:=Zh ((ah2.out m Hw (by omega)).symm);go_wp2;go_ret;exact⟨Qd HF.out,bU _ _⟩
    ·by_cases hk2:1000000<t.kd m
     ·have HF:=Zh ((ah2.out m Hw (by omega)).symm);go_wp2;go_ret;exact⟨Qd HF.out,bU _ _⟩
     ·go_wp2;go_round
      case rel=>
       refine⟨m+1,by omega,by go_num,fun j hj=>?_⟩;by_cases hjm:j=m
       ·subst hjm; omega
       ·exact HM.out j (by omega)
      case measure=>simp[intOf]; omega
   ·have anr:¬ (m:Int)<t.aH:=by omega
    have HF:=Zh ((HG'.out l1 l2 l3 l4 (fun j hj=>HM.out j (by omega))).symm);go_wp2;go_ret;exact⟨Qd HF.out,bU _ _⟩
theorem LY (t:af) (w:World) :
  Calls Tryz.prog 95 #[.agg t.vals] w fun e w'=>e=.returned (.bool (!dC t))/\Below w.heap.size w w':=by
 have hC:=fun x=>H5 t x
 generalize dC t=B at *;unfold af.vals at *;go_enter Tryz.func95,Tryz.ntmps95;go_wp2_with (go_at_call 96; refine (hC _).mono ?_; rintro e w' ⟨rfl,hb⟩);go_ret;exact⟨Qd rfl,aG (bU _ _) hb⟩
theorem Me (ao:Option Addr) (cap:Nat) (ts:List af) (w:World) (hx:aJ w ao ts) :
  Calls Tryz.prog 145 #[.slice ao ts.length cap,.func (.func 95) #[] #[]] w fun e w'=>∃ r,e=.returned (.int .i64 r)/\foundAt r (ts.any fun t=>!dC t)/\Below w.heap.size w w':=by
 have hl:=hx.1;go_enter Tryz.func145,Tryz.ntmps145;go_wp2;go_loopw [8] (fun i wr=>∃ k:Nat,k<=ts.length/\i=.int .i64 k/\Hid (∀ j,j<k->(!dC (ts.getD j tz))=false)/\Below w.heap.size w wr) (fun i _=>ts.length-(intOf i).toNat)
 case atStart=>exact⟨0,QQ _,rfl,fun j hj=>absurd hj (by omega),Qp _ _⟩
 case round=>
  obtain⟨k,hk,rfl,HP,hb⟩:=hrel;by_cases hlt:k<ts.length
  ·obtain⟨b,off,rfl,c0,c1,c2,c3,c4,c5⟩:=hx.2 k hlt;have e0:=cB hb c0;have e1:=cB hb c1;have e2:=cB hb c2;have e3:=cB hb c3;have e4:=cB hb c4;have e5:=cB hb c5;have HA:Hid ((!dC (ts.getD k tz))=true->(ts.any fun t=>!dC t)=true):=fun h=>DX (z:=tz) hlt h
   have hC:=LY (ts.getD k tz) wr;unfold af.vals at hC;generalize hge:ts.getD k tz=t at *;have pW:=Zh hge;go_wp2_with fail;refine hC.mono ?_;rintro e w2 ⟨rfl,hb2⟩
   cases hB:dC t
   ·rw[hB] at HA;go_wp2;go_ret;exact⟨_,Qe rfl,⟨by omega,by rw[HA.out rfl]; simp⟩,aG hb hb2⟩
   ·have HB:=Zh hB;go_wp2;go_roundw
    case rel=>
     refine⟨k+1,by omega,by go_num,fun j hj=>?_,aG hb hb2⟩;by_cases hjk:j=k
     ·subst hjk; rw[pW.out,HB.out]; rfl
     ·exact HP.out j (by omega)
    case measure=>simp[intOf]; omega
  ·have HA:Hid ((ts.any fun t=>!dC t)=false):=any_none (z:=tz) (fun j hj=>HP.out j (by omega));go_wp2;go_ret;exact⟨_,Qe rfl,⟨by omega,by rw[HA.out]; rfl⟩,hb⟩
theorem BV (ao:Option Addr) (cap:Nat) (ts:List af) (w:World) (hx:aJ w ao ts) :
  Calls Tryz.prog 94 #[.slice ao ts.length cap,.func (.func 95) #[] #[]] w fun e w'=>e=.returned (.bool (ts.any fun t=>!dC t))/\Below w.heap.size w w':=by
 have hC:=Me ao cap ts w hx;go_enter Tryz.func94,Tryz.ntmps94;go_wp2_with fail;refine hC.mono ?_;rintro e w2 ⟨r,rfl,hr,hb2⟩;have HR:=Zh hr.2;go_wp2;go_ret;exact⟨Qd HR.out,hb2⟩
theorem Ap (ao:Option Addr) (cap:Nat) (ts:List af) (w:World) (hx:aJ w ao ts) :
  Calls Tryz.prog 53 #[.slice ao ts.length cap] w fun e w'=>e=.returned (.bool (fo ts))/\Below w.heap.size w w':=by
 have hl:=hx.1;by_cases h0:ts.length<1
 ·go_enter Tryz.func53,Tryz.ntmps53;go_wp2;go_ret;exact⟨Qd (Ko h0),Qp _ _⟩
 by_cases h8:8<ts.length
 ·go_enter Tryz.func53,Tryz.ntmps53;go_wp2;go_ret;exact⟨Qd (OX h8),Qp _ _⟩
 have hC:=BV ao cap ts w hx;have HA:=Zh (Uh h0 h8);generalize (ts.any fun t=>!dC t)=Y at *;go_enter Tryz.func53,Tryz.ntmps53;go_wp2_with fail;refine hC.mono ?_;rintro e w2 ⟨rfl,hb2⟩;go_wp2;go_ret;exact⟨Qd HA.out,hb2⟩
theorem qR (n b:Int) (w:World) :
  Calls Tryz.prog 149 #[.int .i64 n,.int .i64 b] w fun e w'=>e=.returned (.bool (wQ n b))/\w' = w:=by
 by_cases h1:0<=n
 ·go_enter Tryz.func149,Tryz.ntmps149;go_wp2;go_ret;exact⟨Qd (by simp[wQ]; omega),rfl⟩
 ·go_enter Tryz.func149,Tryz.ntmps149;go_wp2;go_ret;exact⟨Qd (by simp[wQ]; omega),rfl⟩
theorem EH (n:Int) (w:World) :
  Calls Tryz.prog 152 #[.int .i64 n] w fun e w'=>e=.returned (.bool (decide (-1000<=n)&&decide (n<=1000)))/\w' = w:=by
 by_cases h1:-1000<=n
 ·go_enter Tryz.func152,Tryz.ntmps152;go_wp2;go_ret;exact⟨Qd (by simp; omega),rfl⟩
 ·go_enter Tryz.func152,Tryz.ntmps152;go_wp2;go_ret;exact⟨Qd (by simp; omega),rfl⟩
theorem BX (n b:Int) (p o:Nat) (w:World) (hp:w.cell? (aD p o)=some (.int .i64 b)) :
  Calls Tryz.prog 148 #[.int .i64 n,.pointer (some (aD p o))] w fun e w'=>e=.returned (.bool (!wQ n b))/\w' = w:=by
 have hC:=qR n b w;generalize wQ n b=Y at *;go_enter Tryz.func148,Tryz.ntmps148;go_wp2_with fail;refine hC.mono ?_;clear hC;rintro e w2 ⟨rfl,rfl⟩;go_wp2;go_ret;exact⟨Qd rfl,rfl⟩
theorem Mf (ao:Option Addr) (cap:Nat) (xs:List Int) (bd:Int) (p o:Nat) (w:World) (hx:au w ao xs) (hp:w.cell? (aD p o)=some (.int .i64 bd)) :
  Calls Tryz.prog 203 #[.slice ao xs.length cap,.func (.func 148) #[] #[.pointer (some (aD p o))]] w fun e w'=>∃ r,e=.returned (.int .i64 r)/\foundAt r (xs.any fun x=>!wQ x bd)/\w' = w:=by
 have hl:=hx.1;go_enter Tryz.func203,Tryz.ntmps203;go_wp2;go_loop [8] (fun i=>∃ k:Nat,k<=xs.length/\i=.int .i64 k/\Hid (∀ j,j<k->(!wQ (xs.getD j 0) bd)=false)) (fun i=>xs.length-(intOf i).toNat)
 case atStart=>exact⟨0,QQ _,rfl,fun j hj=>absurd hj (by omega)⟩
 case round=>
  obtain⟨k,hk,rfl,HP⟩:=hrel;by_cases hlt:k<xs.length
  ·obtain⟨b,off,rfl,hc⟩:=hx.get hlt;have hck:=hc k hlt;have HA:Hid ((!wQ (xs.getD k 0) bd)=true->(xs.any fun x=>!wQ x bd)=true):=fun h=>DX (z:=0) hlt h
   have hC:=BX (xs.getD k 0) bd p o w hp;have pW:Hid (xs.getD k 0=xs.getD k 0):=rfl;generalize hge:xs.getD k 0=x at *;have pW:=Zh hge;clear hge hc hx hp;go_wp2_with fail;refine hC.mono ?_;clear hC;rintro e w2 ⟨rfl,rfl⟩
   cases hB:wQ x bd
   ·rw[hB] at HA;go_wp2;go_ret;exact⟨_,Qe rfl,⟨by omega,by rw[HA.out rfl]; simp⟩,rfl⟩
   ·have HB:=Zh hB;clear hB;go_wp2;go_round
    case rel=>
     refine⟨k+1,by omega,by go_num,fun j hj=>?_⟩;by_cases hjk:j=k
     ·subst hjk; rw[pW.out,HB.out]; rfl
     ·exact HP.out j (by omega)
    case measure=>simp[intOf]; omega
  ·have HA:Hid ((xs.any fun x=>!wQ x bd)=false):=any_none (z:=0) (fun j hj=>HP.out j (by omega));go_wp2;go_ret;exact⟨_,Qe rfl,⟨by omega,by rw[HA.out]; rfl⟩,rfl⟩
theorem BZ (ao:Option Addr) (cap:Nat) (xs:List Int) (bd:Int) (p o:Nat) (w:World) (hx:au w ao xs) (hp:w.cell? (aD p o)=some (.int .i64 bd)) :
  Calls Tryz.prog 147 #[.slice ao xs.length cap,.func (.func 148) #[] #[.pointer (some (aD p o))]] w fun e w'=>e=.returned (.bool (xs.any fun x=>!wQ x bd))/\w' = w:=by
 have hC:=Mf ao cap xs bd p o w hx hp;go_enter Tryz.func147,Tryz.ntmps147;go_wp2_with fail;refine hC.mono ?_;clear hC;rintro e w2 ⟨r,rfl,hr,rfl⟩;have HR:=Zh hr.2;clear hr;go_wp2;go_ret;exact⟨Qd HR.out,rfl⟩
theorem jQ (ao:Option Addr) (cap:Nat) (xs:List Int) (bd:Int) (w:World) (hx:au w ao xs) :
  Calls Tryz.prog 99 #[.slice ao xs.length cap,.int .i64 bd] w fun e w'=>e=.returned (.bool (bG xs bd))/\Below w.heap.size w w':=by
 have hC:=BZ ao cap xs bd w.heap.size 0 (w.alloc (.cells #[.int .i64 bd] 3)) (hx.below (bU _ _)) (by simp);have HA:=Zh (Ui xs bd);generalize (xs.any fun x=>!wQ x bd)=Y at *;go_enter Tryz.func99,Tryz.ntmps99;go_wp2_with fail;refine hC.mono ?_;clear hC;rintro e w2 ⟨rfl,rfl⟩;go_wp2;go_ret;exact⟨Qd HA.out,bU _ _⟩
theorem eqB {a b:Int} (h:a=b):(a==b)=true:=by simpa using h
theorem neB {a b:Int} (h:¬ a=b):(a==b)=false:=by simpa using h
theorem Mg (ao:Option Addr) (cap:Nat) (xs:List Int) (v:Int) (w:World) (hx:au w ao xs) :
  Calls Tryz.prog 204 #[.slice ao xs.length cap,.int .i64 v] w fun e w'=>∃ r,e=.returned (.int .i64 r)/\foundAt r (xs.any fun x=>decide (v=x))/\w' = w:=by
 have hl:=hx.1;go_enter Tryz.func204,Tryz.ntmps204;go_wp2;go_loop [8] (fun i=>∃ k:Nat,k<=xs.length/\i=.int .i64 k/\Hid (∀ j,j<k->decide (v=xs.getD j 0)=false)) (fun i=>xs.length-(intOf i).toNat)
 case atStart=>exact⟨0,QQ _,rfl,fun j hj=>absurd hj (by omega)⟩
 case round=>
  obtain⟨k,hk,rfl,HP⟩:=hrel;by_cases hlt:k<xs.length
  ·obtain⟨b,off,rfl,hc⟩:=hx.get hlt;have hck:=hc k hlt;have HA:Hid (decide (v=xs.getD k 0)=true->(xs.any fun x=>decide (v=x))=true):=fun h=>DX (z:=0) hlt h
   generalize hge:xs.getD k 0=x at *;have pW:=Zh hge;clear hge hc hx;by_cases Rs:v=x
   ·have hb:=eqB Rs;have HV:=Zh Rs;clear Rs;go_wp2;go_ret;exact⟨_,Qe rfl,⟨by omega,by rw[HA.out (Qu HV.out)]; simp⟩,rfl⟩
   ·have hb:=neB Rs;have HV:=Zh Rs;clear Rs;go_wp2;go_round
    case rel=>
     refine⟨k+1,by omega,by go_num,fun j hj=>?_⟩;by_cases hjk:j=k
     ·subst hjk; rw[pW.out]; exact Qh HV.out
     ·exact HP.out j (by omega)
    case measure=>simp[intOf]; omega
  ·have HA:Hid ((xs.any fun x=>decide (v=x))=false):=any_none (z:=0) (fun j hj=>HP.out j (by omega));go_wp2;go_ret;exact⟨_,Qe rfl,⟨by omega,by rw[HA.out]; rfl⟩,rfl⟩
theorem Ca (ao:Option Addr) (cap:Nat) (xs:List Int) (v:Int) (w:World) (hx:au w ao xs) :
  Calls Tryz.prog 151 #[.slice ao xs.length cap,.int .i64 v] w fun e w'=>e=.returned (.bool (xs.any fun x=>decide (v=x)))/\w' = w:=by
 have hC:=Mg ao cap xs v w hx;go_enter Tryz.func151,Tryz.ntmps151;go_wp2_with fail;refine hC.mono ?_;clear hC;rintro e w2 ⟨r,rfl,hr,rfl⟩;have HR:=Zh hr.2;clear hr;go_wp2;go_ret;exact⟨Qd HR.out,rfl⟩
theorem au.front {w:World} {ao:Option Addr} {xs:List Int} (h:au w ao xs) {k:Nat} (hk:k<=xs.length):au w ao (xs.take k):=by
 have hl:(xs.take k).length=k:=by rw[Q6]; omega
 refine⟨by have:=h.1; omega,fun i hi=>?_⟩;obtain⟨b,off,e,hc⟩:=h.2 i (by omega);refine⟨b,off,e,?_⟩;rw[hc];simp[List.getD,show i<k by omega]
theorem kD (ao:Option Addr) (cap:Nat) (xs:List Int) (w:World) (hx:au w ao xs) (hcap:xs.length<=cap) :
  Calls Tryz.prog 104 #[.slice ao xs.length cap] w fun e w'=>e=.returned (.bool (dF xs))/\w' = w:=by
 have hl:=hx.1;go_enter Tryz.func104,Tryz.ntmps104;go_wp2;go_loop [7] (fun i=>∃ k:Nat,k<=xs.length/\i=.int .i64 k/\Hid (∀ i,i<k->∀ j,j<i->xs.getD i 0≠xs.getD j 0)) (fun i=>xs.length-(intOf i).toNat)
 case atStart=>exact⟨0,QQ _,rfl,fun i hi=>absurd hi (by omega)⟩
 case round=>
  obtain⟨k,hk,rfl,HP⟩:=hrel;by_cases hlt:k<xs.length
  ·have hfr:=au.front hx hk;obtain⟨b,off,rfl,hc⟩:=hx.get hlt;have hck:=hc k hlt;have hC:=Ca (some (aD b off)) cap (xs.take k) (xs.getD k 0) w hfr;have hlen:(xs.take k).length=k:=by rw[Q6]; omega
   rw[hlen] at hC;have HT:Hid (((xs.take k).any fun x=>decide (xs.getD k 0=x))=true->∃ j,j<k/\xs.getD k 0=xs.getD j 0):=fun h=>by
    rw[List.any_eq_true] at h;obtain⟨x,hx,hd⟩:=h;obtain⟨j,hj,rfl⟩:=List.getElem_of_mem hx;have hjk:j<k:=by omega
    have:=XJ hd;refine⟨j,hjk,this.trans ?_⟩;have hjl:j<xs.length:=by omega
    simp[List.getD,hjl]
   have HN:Hid (((xs.take k).any fun x=>decide (xs.getD k 0=x))=false->∀ j,j<k->xs.getD k 0≠xs.getD j 0):=fun h j hj he=>by
    rw[List.any_eq_false] at h;have hjl:j<xs.length:=by omega
    refine h ((xs.take k)[j]'(by omega)) (Qj _) (Qu ?_);rw[he];simp[List.getD,hjl]
   generalize hY:((xs.take k).any fun x=>decide (xs.getD k 0=x))=Y at *;clear hY hlen hfr hc hx;generalize hge:xs.getD k 0=x at *;have pW:=Zh hge;clear hge;go_wp2_with fail;refine hC.mono ?_;clear hC;rintro e w2 ⟨rfl,rfl⟩
   cases Y
   ·go_wp2;go_round
    case rel=>
     refine⟨k+1,by omega,by go_num,fun i hi=>?_⟩;by_cases hik:i=k
     ·subst hik; rw[pW.out]; exact HN.out (by trivial)
     ·exact HP.out i (by omega)
    case measure=>simp[intOf]; omega
   ·obtain⟨j,hj,he⟩:=HT.out rfl;have HF:=Zh (Km hlt hj (by rw[pW.out]; exact he));clear he;go_wp2;go_ret;exact⟨Qd HF.out,rfl⟩
  ·go_wp2;go_ret;have hkk:k=xs.length:=by omega
   subst hkk;exact⟨Qd (Gj HP.out),rfl⟩
theorem EI (c:aj) (n:Int) (w:World) :
  Calls Tryz.prog 150 #[c.val,.int .i64 n] w fun e w'=>e=.returned (.bool (dO c n))/\Below w.heap.size w w':=by
 have hin:=@Uk c n;have h01:=@tu c n;have h02:=@wS c n;have TY:=@Gq c n;have h04:=@Gs c n;obtain⟨nt,op,left,const,right⟩:=c;unfold aj.val;simp only at hin h01 h02 TY h04;generalize dO ⟨nt,op,left,const,right⟩ n=B at *;have yX:=fun x=>qR left n x
 have hC2:=fun x=>qR right n x
 have J9:=fun x=>EH right x
 generalize wQ right n=Y at *;generalize (decide (-1000<=right)&&decide (right<=1000))=Z at *
 cases hL:wQ left n
 ·have HF:=Zh (hin hL);rw[hL] at yX;clear hin h01 h02 TY h04 hC2 J9 hL;go_enter Tryz.func150,Tryz.ntmps150;go_wp2_with fail;refine (yX _).mono ?_;clear yX;rintro e w2 ⟨rfl,rfl⟩;go_wp2;go_ret;exact⟨Qd HF.out,bU _ _⟩
 ·rw[hL] at yX;by_cases ho:op=0∨op=1
  ·cases const
   ·have HF:=Zh (h02 hL ho rfl);clear hin h01 h02 TY h04 J9 hL;rcases ho with ho | ho
    all_goals
     subst ho;go_enter Tryz.func150,Tryz.ntmps150;go_wp2_with fail;refine (yX _).mono ?_;rintro e w2 ⟨rfl,rfl⟩;go_wp2_with fail;refine (hC2 _).mono ?_;rintro e w3 ⟨rfl,rfl⟩;go_wp2;go_ret;exact⟨Qd HF.out,bU _ _⟩
   ·have HF:=Zh (h01 hL ho rfl);clear hin h01 h02 TY h04 hC2 hL;rcases ho with ho | ho
    all_goals
     subst ho;go_enter Tryz.func150,Tryz.ntmps150;go_wp2_with fail;refine (yX _).mono ?_;rintro e w2 ⟨rfl,rfl⟩;go_wp2_with fail;refine (J9 _).mono ?_;rintro e w3 ⟨rfl,rfl⟩;go_wp2;go_ret;exact⟨Qd HF.out,bU _ _⟩
  ·by_cases h2:op=2
   ·have HF:Hid ((!const&&decide (right=0))=B):=TY hL h2;clear hin h01 h02 TY h04 hC2 J9 hL ho;subst h2
    cases const
    ·by_cases h3:right=0
     ·have HF':=Zh (show true=B by have:=HF.out; simpa [h3] using this);have hb:=eqB h3;clear HF h3;go_enter Tryz.func150,Tryz.ntmps150;go_wp2_with fail;refine (yX _).mono ?_;rintro e w2 ⟨rfl,rfl⟩;go_wp2;go_ret;exact⟨Qd HF'.out,bU _ _⟩
     ·have HF':=Zh (show false=B by have:=HF.out; simpa [h3] using this);have hb:=neB h3;clear HF h3;go_enter Tryz.func150,Tryz.ntmps150;go_wp2_with fail;refine (yX _).mono ?_;rintro e w2 ⟨rfl,rfl⟩;go_wp2;go_ret;exact⟨Qd HF'.out,bU _ _⟩
    ·have HF':=Zh (show false=B by have:=HF.out; simpa using this);go_enter Tryz.func150,Tryz.ntmps150;go_wp2_with fail;refine (yX _).mono ?_;rintro e w2 ⟨rfl,rfl⟩;go_wp2;go_ret;exact⟨Qd HF'.out,bU _ _⟩
   ·have HF:=Zh (h04 (by omega) (by omega) h2);have b0:(op==0)=false:=neB (by omega);have b1:(op==1)=false:=neB (by omega);have b2:=neB h2;clear hin h01 h02 TY h04 hC2 J9 hL ho h2;go_enter Tryz.func150,Tryz.ntmps150;go_wp2_with fail;refine (yX _).mono ?_;rintro e w2 ⟨rfl,rfl⟩;go_wp2;go_ret;exact⟨Qd HF.out,bU _ _⟩
structure Chk (ts:List af) (q:ae):Prop where
 cat:fo ts=true
 src:bG q.src.xs ts.length=true
 five:q.src.xs.length<=5
 eight:q.wh.length<=8
 aH:CU ts q
 some:∀ i,i<q.wh.length->0<(q.wh.getD i lz).cs.length
 three:∀ i,i<q.wh.length->(q.wh.getD i lz).cs.length<=3
theorem Chk.ok {ts:List af} {q:ae} (h:Chk ts q):Ok ts q:=⟨h.cat,h.src,by have:=h.five; omega,by have:=h.eight; omega,h.aH,h.some⟩
theorem Mv {ts:List af} {q:ae} (h:q.check ts=0):Chk ts q/\0<q.src.xs.length/\(q.group=false->bG q.ord.xs q.aQ.xs.length=true)/\q.ord.xs.length<=4/\bG q.aQ.xs (aO ts q.src.xs)=true:=by
 unfold ae.check checkN at h
 cases hc:fo ts with
 | false => rw[Qr hc] at h; omega
 | true =>
  rw[Qs (by rw[hc]; simp)] at h
  cases hf:lg q.src.xs q.lh q.keys.xs q.sums.xs q.aQ.xs q.ord.xs with
  | true => rw[Qr hf] at h; omega
  | false =>
   rw[Qs (by rw[hf]; simp)] at h;by_cases hr:bG q.src.xs ts.length=true/\0<q.src.xs.length/\dP q.lh (aO ts q.src.xs)=true/\uO (aO ts q.src.xs) q.group q.keys.xs q.sums.xs q.aQ.xs q.ord.xs=true
   ·obtain⟨h1,h2,h3,h4⟩:=hr;unfold lg at hf;rw[Bool.or_eq_false_iff,Qg] at hf;obtain⟨f1,f2⟩:=hf;have hwl:q.lh.length=q.wh.length:=by unfold ae.lh; simp
    have hget:∀ i,i<q.wh.length->(q.wh.getD i lz).cs∈q.lh:=fun i hi=>by
     unfold ae.lh;rw[Q0];exact⟨q.wh.getD i lz,by simp[List.getD,hi],rfl⟩
    unfold dP at h3;rw[Qn] at h3;have hcl:∀ i,i<q.wh.length->0<(q.wh.getD i lz).cs.length/\∀ c∈(q.wh.getD i lz).cs,dO c (aO ts q.src.xs)=true:=fun i hi=>by
     have:=h3 _ (hget i hi);unfold gD at this;rw[Qm,Qx,Qn] at this;exact this
    unfold uO at h4;simp only[Qm] at h4;obtain⟨⟨⟨⟨⟨⟨⟨r1,_⟩,_⟩,r4⟩,_⟩,_⟩,_⟩,_⟩:=h4;refine⟨⟨hc,h1,by omega,by omega,?_,fun i hi=>(hcl i hi).1,fun i hi=>?_⟩,h2,fun hg=>?_,by omega,r1⟩
    ·intro i hi c hm;unfold bV at hm;rw[Xz] at hm;obtain⟨x,hx,hcx⟩:=hm;have hb:=(hcl i hi).2 x hx;unfold dO at hb;simp only[Qm,Qx] at hb;obtain⟨⟨⟨⟨b1,b2⟩,b3⟩,b4⟩,b5⟩:=hb;unfold aK at hcx;split at hcx
     ·rename_i hop
      rw[Qs hop.1,hop.2] at b5;simp only[Bool.false_eq_true,if_false,Qm,Qx] at b5;simp only[QP,XD,or_false] at hcx;rcases hcx with rfl | rfl
      ·exact⟨b1,b2⟩
      ·exact⟨b5.1,by omega⟩
     ·simp only[QP,XD,or_false] at hcx;subst hcx;exact⟨b1,b2⟩
    ·rw[List.any_eq_false] at f2;have:=f2 _ (hget i hi);simp only[Qx] at this;omega
    ·rw[hg] at r4;exact r4
   ·rw[Qs hr] at h; omega
theorem JC (ad:Option Addr) (n cap:Nat) (w:World) :
  Calls Tryz.prog 98 #[.agg #[.slice ad n cap]] w fun e w'=>e=.returned (.bool (decide (3<n)))/\Below w.heap.size w w':=by
 go_enter Tryz.func98,Tryz.ntmps98;go_wp2;go_ret;exact⟨Qd (decide_eq_decide.2 (by omega)),bU _ _⟩
theorem Ns (ao:Option Addr) (cap:Nat) (ls:List ay) (w:World) (hx:eF w ao ls) :
  Calls Tryz.prog 146 #[.slice ao ls.length cap,.func (.func 98) #[] #[]] w fun e w'=>∃ r,e=.returned (.int .i64 r)/\foundAt r (ls.any fun c=>decide (3<c.cs.length))/\Below w.heap.size w w':=by
 have hl:=hx.1;go_enter Tryz.func146,Tryz.ntmps146;go_wp2;go_loopw [8] (fun i wr=>∃ k:Nat,k<=ls.length/\i=.int .i64 k/\Hid (∀ j,j<k->decide (3<(ls.getD j lz).cs.length)=false)/\Below w.heap.size w wr) (fun i _=>ls.length-(intOf i).toNat)
 case atStart=>exact⟨0,QQ _,rfl,fun j hj=>absurd hj (by omega),Qp _ _⟩
 case round=>
  obtain⟨k,hk,rfl,HP,hb⟩:=hrel;by_cases hlt:k<ls.length
  ·obtain⟨b,off,rfl,hc⟩:=hx.2.1.get hlt;have hck:=cB hb (hc k hlt);unfold ay.val at hck;have HA:Hid (decide (3<(ls.getD k lz).cs.length)=true->(ls.any fun c=>decide (3<c.cs.length))=true):=fun h=>DX (p:=fun c:ay=>decide (3<c.cs.length)) (z:=lz) hlt h
   generalize (ls.getD k lz).ad=ad at *;generalize (ls.getD k lz).cap=cp at *;generalize hge:(ls.getD k lz).cs.length=cl at *;have pW:=Zh hge;have hC:=JC ad cl cp wr;clear hge hc hx;by_cases h3:3<cl
   ·rw[Qu h3] at hC;go_wp2_with fail;refine hC.mono ?_;clear hC;rintro e w2 ⟨rfl,hb2⟩;go_wp2;go_ret;exact⟨_,Qe rfl,⟨by omega,by rw[HA.out (Qu h3)]; simp⟩,aG hb hb2⟩
   ·rw[Qh h3] at hC;go_wp2_with fail;refine hC.mono ?_;clear hC;rintro e w2 ⟨rfl,hb2⟩;go_wp2;go_roundw
    case rel=>
     refine⟨k+1,by omega,by go_num,fun j hj=>?_,aG hb hb2⟩;by_cases hjk:j=k
     ·subst hjk; rw[pW.out]; exact Qh (by omega)
     ·exact HP.out j (by omega)
    case measure=>simp[intOf]; omega
  ·have HA:Hid ((ls.any fun c=>decide (3<c.cs.length))=false):=any_none (z:=lz) (fun j hj=>HP.out j (by omega));go_wp2;go_ret;exact⟨_,Qe rfl,⟨by omega,by rw[HA.out]; rfl⟩,hb⟩
theorem Cu (ao:Option Addr) (cap:Nat) (ls:List ay) (w:World) (hx:eF w ao ls) :
  Calls Tryz.prog 97 #[.slice ao ls.length cap,.func (.func 98) #[] #[]] w fun e w'=>e=.returned (.bool (xX ls ls.length))/\Below w.heap.size w w':=by
 have hC:=Ns ao cap ls w hx;rw[Uj] at hC;go_enter Tryz.func97,Tryz.ntmps97;go_wp2_with fail;refine hC.mono ?_;clear hC;rintro e w2 ⟨r,rfl,hr,hb2⟩;have HR:=Zh hr.2;clear hr;go_wp2;go_ret;exact⟨Qd HR.out,hb2⟩
theorem Nt (q:ae) (w:World) (hq:eF w q.bY q.wh) :
  Calls Tryz.prog 54 #[.agg q.cells] w fun e w'=>e=.returned (.bool (lg q.src.xs q.lh q.keys.xs q.sums.xs q.aQ.xs q.ord.xs))/\Below w.heap.size w w':=by
 have HE:=Zh q.NY;generalize lg q.src.xs q.lh q.keys.xs q.sums.xs q.aQ.xs q.ord.xs=FB at *;have hC:=fun o=>Cu q.bY q.aI q.wh (w.alloc o) (hq.below (bU _ _))
 have hwl:=hq.1;clear hq;obtain⟨src,bY,aI,wh,group,keys,sums,aQ,ord⟩:=q;simp only at HE hC hwl;unfold ae.cells ah.val;simp only;by_cases hf:5<src.xs.length∨8<wh.length∨8<aQ.xs.length∨4<keys.xs.length∨4<sums.xs.length∨4<ord.xs.length
 ·have HF:=Zh (show true=FB by rw[HE.out,Qu hf,Bool.true_or]);clear hC HE;have hcase:(5<src.xs.length)∨(¬ 5<src.xs.length/\8<wh.length)∨(¬ 5<src.xs.length/\¬ 8<wh.length/\4<ord.xs.length)∨(¬ 5<src.xs.length/\¬ 8<wh.length/\¬ 4<ord.xs.length/\8<aQ.xs.length)∨
   (¬ 5<src.xs.length/\¬ 8<wh.length/\¬ 4<ord.xs.length/\¬ 8<aQ.xs.length/\4<keys.xs.length)∨(¬ 5<src.xs.length/\¬ 8<wh.length/\¬ 4<ord.xs.length/\¬ 8<aQ.xs.length/\¬ 4<keys.xs.length/\4<sums.xs.length):=by omega
  clear hf;rcases hcase with h1 | ⟨h1,h2⟩ | ⟨h1,h2,h3⟩ | ⟨h1,h2,h3,h4⟩ | ⟨h1,h2,h3,h4,h5⟩ | ⟨h1,h2,h3,h4,h5,h6⟩
  all_goals
   go_enter Tryz.func54,Tryz.ntmps54;go_wp2;go_ret;exact⟨Qd HF.out,bU _ _⟩
 ·have HF:=Zh (show xX wh wh.length=FB by rw[HE.out,Qh hf,Bool.false_or]);have h1:¬ 5<src.xs.length:=by omega
  have h2:¬ 8<wh.length:=by omega
  have h3:¬ 8<aQ.xs.length:=by omega
  have h4:¬ 4<keys.xs.length:=by omega
  have h5:¬ 4<sums.xs.length:=by omega
  have h6:¬ 4<ord.xs.length:=by omega
  clear HE hf;generalize xX wh wh.length=Y at *;go_enter Tryz.func54,Tryz.ntmps54;go_wp2_with fail;refine (hC _).mono ?_;clear hC;rintro e w2 ⟨rfl,hb2⟩;go_wp2;go_ret;exact⟨Qd HF.out,aG (bU _ _) hb2⟩
theorem FL (q:ae) (w:World) (h1:q.keys.xs.length<=1000) (h2:q.sums.xs.length<=1000) :
  Calls Tryz.prog 103 #[.agg q.cells] w fun e w'=>e=.returned (.int .i64 (zu q.group q.keys.xs q.sums.xs q.aQ.xs))/\Below w.heap.size w w':=by
 obtain⟨src,bY,aI,wh,group,keys,sums,aQ,ord⟩:=q;simp only at h1 h2;unfold ae.cells ah.val
 cases group
 ·go_enter Tryz.func103,Tryz.ntmps103;go_wp2;go_ret;exact⟨Qe rfl,bU _ _⟩
 ·go_enter Tryz.func103,Tryz.ntmps103;go_wp2;go_ret;exact⟨Qe rfl,bU _ _⟩
theorem xS (ao:Option Addr) (cap:Nat) (ts:List af) (pY:Option Addr) (ig:Nat) (xs:List Int) (w:World) (hx:aJ w ao ts) (hc:fo ts=true) (hq:au w pY xs) (h5:xs.length<=5) (ha:bG xs ts.length=true) :
  Calls Tryz.prog 100 #[.slice ao ts.length cap,.slice pY xs.length ig] w fun e w'=>e=.returned (.int .i64 (aO ts xs))/\w' = w:=by
 have HC:=Zh hc;have HA:=Zh ha;clear hc ha;go_enter Tryz.func100,Tryz.ntmps100;go_wp2;go_loop [5,10] (fun n i=>∃ k:Nat,k<=xs.length/\i=.int .i64 k/\n=.int .i64 (aO ts (xs.take k))) (fun _ i=>xs.length-(intOf i).toNat)
 case atStart=>exact⟨0,QQ _,rfl,rfl⟩
 case round=>
  obtain⟨k,hk,rfl,rfl⟩:=hrel;have hbd:=rJ HC.out HA.out k hk;by_cases hlt:k<xs.length
  ·obtain⟨sb,anR,rfl,hs⟩:=hq.get hlt;have hsk:=hs k hlt;have hr:=lu HA.out hlt;have kR:=om HC.out (i:=xs[k].toNat) (by omega);obtain⟨b,off,rfl,c0,-⟩:=hx.2 xs[k].toNat (by omega);have HS:=Zh (jm ts xs k hlt);generalize (ts.getD xs[k].toNat tz).aH=cc at *;generalize aO ts (xs.take k)=W0 at *;clear hs hx hq;go_wp2;go_round
   case rel=>exact⟨k+1,by omega,by go_num,by rw[HS.out]⟩
   case measure=>simp[intOf]; omega
  ·go_wp2;go_ret;have:k=xs.length:=by omega
   subst this;exact⟨Qe (by rw[Qt]),rfl⟩
theorem FM {ls:List ay} {n:Int} {k:Nat} (hk:k<ls.length) (h:gD (ls.getD k lz).cs n=false):false=dP (ls.map ay.cs) n:=
 (@DU ⟨⟨none,0,[]⟩,none,0,ls,false,⟨none,0,[]⟩,⟨none,0,[]⟩,⟨none,0,[]⟩,⟨none,0,[]⟩⟩ n k hk h).symm
theorem Cv {ls:List ay} {n:Int} (h:∀ k,k<ls.length->gD (ls.getD k lz).cs n=true):true=dP (ls.map ay.cs) n:=
 (@BB ⟨⟨none,0,[]⟩,none,0,ls,false,⟨none,0,[]⟩,⟨none,0,[]⟩,⟨none,0,[]⟩,⟨none,0,[]⟩⟩ n h).symm
theorem FO (ao:Option Addr) (cap:Nat) (ls:List ay) (n:Int) (w:World) (hx:eF w ao ls) :
  Calls Tryz.prog 101 #[.slice ao ls.length cap,.int .i64 n] w fun e w'=>e=.returned (.bool (dP (ls.map ay.cs) n))/\Below w.heap.size w w':=by
 have hl:=hx.1;have HBD:Hid _:=@FM ls n;have TZ:Hid _:=@Cv ls n;generalize dP (ls.map ay.cs) n=R at *;go_enter Tryz.func101,Tryz.ntmps101;go_wp2;go_loopw [11] (fun i wr=>∃ k:Nat,k<=ls.length/\i=.int .i64 k/\Hid (∀ j,j<k->gD (ls.getD j lz).cs n=true)/\Below w.heap.size w wr) (fun i _=>ls.length-(intOf i).toNat)
 case atStart=>exact⟨0,QQ _,rfl,fun j hj=>absurd hj (by omega),Qp _ _⟩
 case round=>
  obtain⟨k,hk,rfl,HP,hb⟩:=hrel;by_cases hlt:k<ls.length
  ·obtain⟨b,off,rfl,hc⟩:=hx.2.1.get hlt;have hck:=cB hb (hc k hlt);have hcd:=hx.2.2 k hlt;have HBc:Hid (gD (ls.getD k lz).cs n=false->false=R):=fun h=>HBD.out hlt h
   generalize hge:ls.getD k lz=cl at *;have pW:=Zh hge;clear hge hc hx;obtain⟨ad,cp,cs⟩:=cl;unfold ay.val at hck;simp only at hck hcd;have Ll:=hcd.1;have hbs:=hb.size;by_cases hc0:cs.length=0
   ·have HF:=Zh (HBc.out (DV (by simp only; omega)));go_wp2;go_ret;exact⟨Qd HF.out,hb.alloc hbs _⟩
   ·have hc0':((cs.length:Int)==0)=false:=by simpa using hc0
    have Vm:=Zh hc0;clear hc0;go_wp2;go_loopw [22] (fun i wr2=>∃ m:Nat,m<=cs.length/\i=.int .i64 m/\Hid (∀ j,j<m->dO (cs.getD j cz) n=true)/\Below w.heap.size w wr2) (fun i _=>cs.length-(intOf i).toNat)
    case atStart=>exact⟨0,QQ _,rfl,fun j hj=>absurd hj (by omega),hb.alloc hbs _⟩
    case round=>
     obtain⟨m,hm,rfl,HM,hb2⟩:=hrel;have abV:=hb2.size;clear hck hc0';by_cases Hw:m<cs.length
     ·obtain⟨b2,adq,rfl,c0,c1,c2,c3,c4⟩:=hcd.2 m Hw;have d0:=cB hb2 c0;have d1:=cB hb2 c1;have d2:=cB hb2 c2;have d3:=cB hb2 c3;have d4:=cB hb2 c4;clear c0 c1 c2 c3 c4;have hC:=fun x=>EI (cs.getD m cz) n x
      unfold aj.val at hC;generalize hgc:cs.getD m cz=cc at *;have HGC:=Zh hgc;clear hgc
      cases hcb:dO cc n
      ·rw[hcb] at hC;have HF:=Zh (HBc.out (Gn Hw (by rw[HGC.out]; exact hcb)));go_wp2_with fail;refine (hC _).mono ?_;clear hC;rintro e w4 ⟨rfl,hb4⟩;go_wp2;go_ret;exact⟨Qd HF.out,aG (hb2.alloc abV _) hb4⟩
      ·rw[hcb] at hC;have aeU:=Zh hcb;clear hcb;go_wp2_with fail;refine (hC _).mono ?_;clear hC;rintro e w4 ⟨rfl,hb4⟩;go_wp2;go_roundw
       case rel=>
        refine⟨m+1,by omega,by go_num,fun j hj=>?_,aG (hb2.alloc abV _) hb4⟩;by_cases hjm:j=m
        ·subst hjm; rw[HGC.out]; exact aeU.out
        ·exact HM.out j (by omega)
       case measure=>simp[intOf]; omega
     ·have HG:=Zh (DW (by have:=Vm.out; omega) (fun j hj=>HM.out j (by omega)));go_wp2;go_roundw
      case rel=>
       refine⟨k+1,by omega,by go_num,fun j hj=>?_,hb2⟩;by_cases hjk:j=k
       ·subst hjk; rw[pW.out]; exact HG.out
       ·exact HP.out j (by omega)
      case measure=>simp[intOf]; omega
  ·have HF:=Zh (TZ.out (fun j hj=>HP.out j (by omega)));go_wp2;go_ret;exact⟨Qd HF.out,hb⟩
def rF (n:Int) (group:Bool) (keys sums aQ:List Int):Bool:=
 if group then decide (aQ.length=0)&&bG sums n&&bG keys n&&dF keys else decide (0<aQ.length)&&bG aQ n&&decide (keys.length=0)&&decide (sums.length=0)
theorem Bh (q:ae) (n:Int) (w:World) (hk:q.keys.At w) (hs:q.sums.At w) (he:q.aQ.At w) (hkc:q.keys.xs.length<=q.keys.cap) :
  Calls Tryz.prog 102 #[.agg q.cells,.int .i64 n] w fun e w'=>e=.returned (.bool (rF n q.group q.keys.xs q.sums.xs q.aQ.xs))/\Below w.heap.size w w':=by
 obtain⟨src,bY,aI,wh,group,⟨kH,dJ,keys⟩,⟨DD,nW,sums⟩,⟨ead,apQ,aQ⟩,ord⟩:=q;unfold ah.At at hk hs he;simp only at hk hs he hkc;unfold ae.cells ah.val;simp only;have hel:=he.1;have yX:=fun x (h:Below w.heap.size w x)=>jQ ead apQ aQ n x (Qo h he)
 have hC2:=fun x (h:Below w.heap.size w x)=>jQ DD nW sums n x (Qo h hs)
 have J9:=fun x (h:Below w.heap.size w x)=>jQ kH dJ keys n x (Qo h hk)
 have hC4:=fun x (h:Below w.heap.size w x)=>kD kH dJ keys x (Qo h hk) hkc
 clear hk hs he;have HE:Hid (rF n group keys sums aQ=rF n group keys sums aQ):=rfl;generalize hR:rF n group keys sums aQ=R at *;clear HE;unfold rF at hR;generalize bG aQ n=A1 at *;generalize bG sums n=A2 at *;generalize bG keys n=A3 at *;generalize dF keys=A4 at *
 cases group
 ·simp only[Bool.false_eq_true,if_false] at hR;clear hC2 J9 hC4;by_cases h0:0<aQ.length
  ·rw[Qu h0,Qv] at hR
   cases A1
   ·have HF:=Zh (show false=R by rw[<- hR]; rfl);clear hR;go_enter Tryz.func102,Tryz.ntmps102;go_wp2_with fail;refine (yX _ (bU _ _)).mono ?_;clear yX;rintro e w2 ⟨rfl,hb2⟩;go_wp2;go_ret;exact⟨Qd HF.out,aG (bU _ _) hb2⟩
   ·rw[Qv] at hR;by_cases h1:keys.length=0
    ·have h1':((keys.length:Int)==0)=true:=by simpa using h1
     have HF:=Zh (show ((sums.length:Int)==0)=R by rw[<- hR,Qu h1,Qv,Y6]);clear hR h1;go_enter Tryz.func102,Tryz.ntmps102;go_wp2_with fail;refine (yX _ (bU _ _)).mono ?_;clear yX;rintro e w2 ⟨rfl,hb2⟩;have hcell:=uN hb2;simp at hcell;go_wp2;go_ret;exact⟨Qd HF.out,aG (bU _ _) hb2⟩
    ·have h1':((keys.length:Int)==0)=false:=by simpa using h1
     have HF:=Zh (show false=R by rw[<- hR,Qh h1]; rfl);clear hR h1;go_enter Tryz.func102,Tryz.ntmps102;go_wp2_with fail;refine (yX _ (bU _ _)).mono ?_;clear yX;rintro e w2 ⟨rfl,hb2⟩;have hcell:=uN hb2;simp at hcell;go_wp2;go_ret;exact⟨Qd HF.out,aG (bU _ _) hb2⟩
  ·have HF:=Zh (show false=R by rw[<- hR,Qh h0]; rfl);clear hR;go_enter Tryz.func102,Tryz.ntmps102;go_wp2;go_ret;exact⟨Qd HF.out,bU _ _⟩
 ·simp only[if_true] at hR;clear yX;by_cases h0:0<aQ.length
  ·have HF:=Zh (show false=R by rw[<- hR,Qh (by omega)]; rfl);clear hR;go_enter Tryz.func102,Tryz.ntmps102;go_wp2;go_ret;exact⟨Qd HF.out,bU _ _⟩
  ·rw[Qu (show aQ.length=0 by omega),Qv] at hR
   cases A2
   ·have HF:=Zh (show false=R by rw[<- hR]; rfl);clear hR;go_enter Tryz.func102,Tryz.ntmps102;go_wp2_with fail;refine (hC2 _ (bU _ _)).mono ?_;clear hC2;rintro e w2 ⟨rfl,hb2⟩;go_wp2;go_ret;exact⟨Qd HF.out,aG (bU _ _) hb2⟩
   ·rw[Qv] at hR
    cases A3
    ·have HF:=Zh (show false=R by rw[<- hR]; rfl);clear hR;go_enter Tryz.func102,Tryz.ntmps102;go_wp2_with fail;refine (hC2 _ (bU _ _)).mono ?_;clear hC2;rintro e w2 ⟨rfl,hb2⟩;have hcell:=uN hb2;simp at hcell;go_wp2_with fail;refine (J9 _ (aG (bU _ _) hb2)).mono ?_;clear J9;rintro e w3 ⟨rfl,hb3⟩;go_wp2;go_ret;exact⟨Qd HF.out,aG (aG (bU _ _) hb2) hb3⟩
    ·have HF:=Zh (show A4=R by rw[<- hR,Qv]);clear hR;go_enter Tryz.func102,Tryz.ntmps102;go_wp2_with fail;refine (hC2 _ (bU _ _)).mono ?_;clear hC2;rintro e w2 ⟨rfl,hb2⟩;have hcell:=uN hb2;simp at hcell;go_wp2_with fail;refine (J9 _ (aG (bU _ _) hb2)).mono ?_;clear J9;rintro e w3 ⟨rfl,hb3⟩;have hz:w.heap.size<w2.heap.size:=by have:=hb2.size; simp at this; omega
     have Vn:=uN hb3;go_wp2_with fail;refine (hC4 _ (aG (aG (bU _ _) hb2) hb3)).mono ?_;clear hC4;rintro e w4 ⟨rfl,rfl⟩;go_wp2;go_ret;exact⟨Qd HF.out,aG (aG (bU _ _) hb2) hb3⟩
theorem Nu (n:Int) (group:Bool) (keys sums aQ ord:List Int) :
  uO n group keys sums aQ ord=(rF n group keys sums aQ&&(bG ord (zu group keys sums aQ)&&dF ord)):=by
 unfold uO rF;generalize bG ord (zu group keys sums aQ)=O;generalize dF ord=P
 cases group
 ·by_cases hs:aQ.length=0
  ·have:¬ 0<aQ.length:=by omega
   simp[hs]
  ·have h1:=Qh hs;have h2:decide (0<aQ.length)=true:=Qu (by omega);rw[h1,h2];by_cases hk:keys.length=0
   ·by_cases hu:sums.length=0
    ·have hk':=Qz hk;have hu':=Qz hu;subst hk' hu';have ha:dF []=true:=by decide
     rw[ha]
     cases bG aQ n <;> cases O <;> cases P <;> rfl
    ·rw[Qh hu,Qh (show ¬ keys.length+sums.length=0 by omega)];simp
   ·rw[Qh hk,Qh (show ¬ keys.length+sums.length=0 by omega)];simp
 ·by_cases hs:aQ.length=0
  ·have hs':=Qz hs;subst hs';have h1:bG [] n=true:=rfl;rw[h1]
   cases bG sums n <;> cases bG keys n <;> cases dF keys <;> cases O <;> cases P <;> rfl
  ·rw[Qh hs];simp
def xU (ts:List af) (src:List Int) (wh:List (List aj)) (group:Bool) (keys sums aQ ord:List Int):Bool:=
 decide (0<src.length)&&(bG src ts.length&&(dP wh (aO ts src)&&(rF (aO ts src) group keys sums aQ&&(bG ord (zu group keys sums aQ)&&dF ord))))
theorem JD {ts:List af} {src:List Int} {wh:List (List aj)} {group:Bool} {keys sums aQ ord:List Int} (hc:fo ts=true) (hf:lg src wh keys sums aQ ord=false) :
  checkN ts src wh group keys sums aQ ord=if xU ts src wh group keys sums aQ ord then 0 else 3:=by
 unfold checkN xU;rw[Qs (by simp[hc]),Qs (by simp[hf]),Nu];generalize (rF (aO ts src) group keys sums aQ&&(bG ord (zu group keys sums aQ)&&dF ord))=X;by_cases h0:0<src.length
 ·rw[Qu h0]
  cases bG src ts.length <;> cases dP wh (aO ts src) <;> cases X <;> simp[h0]
 ·rw[Qh h0];simp[h0]
theorem JE (ao:Option Addr) (cap:Nat) (ts:List af) (q:ae) (w:World) (hx:aJ w ao ts) (hq:q.At w) (hc:fo ts=true)
  (hf:lg q.src.xs q.lh q.keys.xs q.sums.xs q.aQ.xs q.ord.xs=false) (hkc:q.keys.xs.length<=q.keys.cap) (hoc:q.ord.xs.length<=q.ord.cap) :
  Calls Tryz.prog 55 #[.slice ao ts.length cap,.agg q.cells] w fun e w'=>e=.returned (.bool (xU ts q.src.xs q.lh q.group q.keys.xs q.sums.xs q.aQ.xs q.ord.xs))/\Below w.heap.size w w':=by
 have hlen:¬ (5<q.src.xs.length∨8<q.wh.length∨8<q.aQ.xs.length∨4<q.keys.xs.length∨4<q.sums.xs.length∨4<q.ord.xs.length):=by
  intro h;rw[ae.NY,Qu h,Bool.true_or] at hf
  cases hf
 have hOW:=fun x=>FL q x (by omega) (by omega)
 have Vk:=fun n x (h:Below w.heap.size w x)=>Bh q n x (Qo h hq.keys) (Qo h hq.sums) (Qo h hq.aQ) hkc
 unfold xU;obtain⟨src,bY,aI,wh,group,keys,sums,aQ,ord⟩:=q;have hsrc:au w src.ad src.xs:=hq.src;have tK:au w ord.ad ord.xs:=hq.ord;have Dp:eF w bY wh:=hq.wh;have akg:(ae.mk src bY aI wh group keys sums aQ ord).lh=wh.map ay.cs:=rfl;simp only[akg] at *;clear akg hq hf;unfold ae.cells ah.val at *;simp only at *;have h1:src.xs.length<=5:=by omega
 have I6:=fun x (h:Below w.heap.size w x)=>jQ src.ad src.cap src.xs ts.length x (hsrc.below h)
 have Ll:=fun n x (h:Below w.heap.size w x)=>FO bY aI wh n x (Dp.below h)
 have akh:=fun x (h:Below w.heap.size w x)=>jQ ord.ad ord.cap ord.xs (zu group keys.xs sums.xs aQ.xs) x (tK.below h)
 have aki:=fun x (h:Below w.heap.size w x)=>kD ord.ad ord.cap ord.xs x (tK.below h) hoc
 generalize hR:(decide (0<src.xs.length)&&(bG src.xs ts.length&&(dP (wh.map ay.cs) (aO ts src.xs)&&(rF (aO ts src.xs) group keys.xs sums.xs aQ.xs&&(bG ord.xs (zu group keys.xs sums.xs aQ.xs)&&dF ord.xs)))))=R;by_cases h0:0<src.xs.length
 ·rw[Qu h0,Qv] at hR;have h0':((src.xs.length:Int)==0)=false:=by rw[Z6]; omega
  cases ha:bG src.xs ts.length
  ·rw[ha] at I6 hR;have HR:Hid (false=R):=hR;clear hR;go_enter Tryz.func55,Tryz.ntmps55;go_wp2_with fail;refine (I6 _ (bU _ _)).mono ?_;rintro e w2 ⟨rfl,hb2⟩;go_wp2;go_ret;exact⟨Qd HR.out,aG (bU _ _) hb2⟩
  ·have hcc:=fun x (h:Below w.heap.size w x)=>xS ao cap ts src.ad src.cap src.xs x (hx.below h) hc (hsrc.below h) h1 ha
   rw[ha] at I6 hR;clear ha hc;rw[Qv] at hR;have HR:=Zh hR;clear hR;generalize aO ts src.xs=N at *;have Ll:=Ll N;have Vk:=Vk N;generalize dP (wh.map ay.cs) N=CB at *;generalize rF N group keys.xs sums.xs aQ.xs=FB at *;clear hx hsrc tK Dp hkc hoc;go_enter Tryz.func55,Tryz.ntmps55;go_wp2_with fail;refine (I6 _ (bU _ _)).mono ?_;clear I6;rintro e w2 ⟨rfl,hb2⟩;have hz:w.heap.size<w2.heap.size:=by have:=hb2.size; simp at this; omega
   have hcell:=uN hb2;simp at hcell;have k2:=aG (bU _ _) hb2;go_wp2_with fail;refine (hcc _ k2).mono ?_;clear hcc;rintro e w3 ⟨rfl,rfl⟩;go_wp2_with fail;refine (Ll _ k2).mono ?_;clear Ll;rintro e w4 ⟨rfl,hb4⟩;have k4:=aG k2 hb4;have f0:w4.cell? (aD w.heap.size 0)=some (.slice src.ad src.xs.length src.cap):=cB hb4 (by rw[hcell _ _ (by omega)]; simp);have f1:w4.cell? (aD w.heap.size 1)=some (.slice bY wh.length aI):=cB hb4 (by rw[hcell _ _ (by omega)]; simp);have f2:w4.cell? (aD w.heap.size 2)=some (.bool group):=cB hb4 (by rw[hcell _ _ (by omega)]; simp);have f3:w4.cell? (aD w.heap.size 3)=some (.slice keys.ad keys.xs.length keys.cap):=cB hb4 (by rw[hcell _ _ (by omega)]; simp);have f4:w4.cell? (aD w.heap.size 4)=some (.slice sums.ad sums.xs.length sums.cap):=cB hb4 (by rw[hcell _ _ (by omega)]; simp);have f5:w4.cell? (aD w.heap.size 5)=some (.slice aQ.ad aQ.xs.length aQ.cap):=cB hb4 (by rw[hcell _ _ (by omega)]; simp);have f6:w4.cell? (aD w.heap.size 6)=some (.slice ord.ad ord.xs.length ord.cap):=cB hb4 (by rw[hcell _ _ (by omega)]; simp);clear hcell hb4 k2 hb2
   cases CB
   ·go_wp2;go_ret;exact⟨Qd HR.out,k4⟩
   ·go_wp2_with fail;refine (Vk _ k4).mono ?_;clear Vk;rintro e w5 ⟨rfl,hb5⟩;have k5:=aG k4 hb5;have g0:=cB hb5 f0;have g1:=cB hb5 f1;have g2:=cB hb5 f2;have g3:=cB hb5 f3;have g4:=cB hb5 f4;have g5:=cB hb5 f5;have g6:=cB hb5 f6;clear f0 f1 f2 f3 f4 f5 f6 hb5 k4
    cases FB
    ·go_wp2;go_ret;exact⟨Qd HR.out,k5⟩
    ·go_wp2_with fail;generalize zu group keys.xs sums.xs aQ.xs=O at *;generalize bG ord.xs O=AO at *;generalize dF ord.xs=PO at *;refine kN (by kernel_rfl) (by kernel_rfl) ?_;refine qS (.pointer (some (aD w.heap.size 6))) ?_;refine qC (.slice ord.ad ord.xs.length ord.cap) g6 ?_;go_big_quiet_want;refine⟨.agg #[.slice src.ad src.xs.length src.cap,.slice bY wh.length aI,.bool group,.slice keys.ad keys.xs.length keys.cap,.slice sums.ad sums.xs.length sums.cap,.slice aQ.ad aQ.xs.length aQ.cap,.slice ord.ad ord.xs.length ord.cap],fun x hx=>?_,?_⟩
     ·have e0:=TP hx g0 g1 g2 g3 g4 g5 g6;go_simp
     simp only[pU];go_big_quiet_on;go_big_quiet_want;refine⟨.int .i64 O,fun x hx=>?_,?_⟩
     ·have hC:=Calls.within hx (hOW x);go_simp
     simp only[pU];go_big_quiet_on;go_big_quiet_want;refine⟨.bool AO,fun x hx=>?_,?_⟩
     ·have hC:=Calls.within hx (akh x (aG k5 hx));go_simp
     simp only[pU];go_big_quiet_on;refine qS (.bool AO) ?_
     cases AO
     ·go_big_quiet_skip;go_big_quiet_skip;go_big_quiet_skip;refine qS (.bool false) ?_;refine qS (.bool false) ?_;refine wpQuiet_nil ?_;intro x hx;go_wp2;go_ret;exact⟨Qd HR.out,aG k5 hx⟩
     ·go_big_quiet_want;refine⟨.pointer (some (aD w.heap.size 6)),fun x hx=>?_,?_⟩
      ·go_simp
      simp only[pU];go_big_quiet_on;refine qC (.slice ord.ad ord.xs.length ord.cap) g6 ?_;go_big_quiet_want;refine⟨.bool PO,fun x hx=>?_,?_⟩
      ·have hC:=Calls.Gp hx (aki x (aG k5 hx));go_simp
      simp only[pU];go_big_quiet_on;refine qS (.bool PO) ?_;refine qS (.bool PO) ?_;refine wpQuiet_nil ?_;intro x hx;go_wp2;go_ret;exact⟨Qd HR.out,aG k5 hx⟩
 ·have h0':((src.xs.length:Int)==0)=true:=by rw[beq_iff_eq]; omega
  rw[Qh h0,Qi] at hR;have HR:=Zh hR;clear hR;clear hOW Vk I6 Ll akh aki;go_enter Tryz.func55,Tryz.ntmps55;go_wp2;go_ret;exact⟨Qd HR.out,bU _ _⟩
theorem FP {q:ae} {ts:List af} (h:fo ts=false):(1:Int)=q.check ts:=ae.OY h
theorem Bi {q:ae} {ts:List af} (hc:fo ts=true) (hf:lg q.src.xs q.lh q.keys.xs q.sums.xs q.aQ.xs q.ord.xs=false) :
  q.check ts=if xU ts q.src.xs q.lh q.group q.keys.xs q.sums.xs q.aQ.xs q.ord.xs then 0 else 3:=JD hc hf
theorem Bj (ao:Option Addr) (cap:Nat) (ts:List af) (q:ae) (w:World) (hx:aJ w ao ts) (hq:q.At w) (hkc:q.keys.xs.length<=q.keys.cap) (hoc:q.ord.xs.length<=q.ord.cap) :
  Calls Tryz.prog 32 #[.slice ao ts.length cap,.agg q.cells] w fun e w'=>e=.returned (.int .i64 (q.check ts))/\Below w.heap.size w w':=by
 have yX:=fun x (h:Below w.heap.size w x)=>Ap ao cap ts x (hx.below h)
 have hC2:=fun x (h:Below w.heap.size w x)=>Nt q x (hq.wh.below h)
 have J9:=fun (hc:fo ts=true) (hf:lg q.src.xs q.lh q.keys.xs q.sums.xs q.aQ.xs q.ord.xs=false) x (h:Below w.heap.size w x)=>JE ao cap ts q x (hx.below h) (hq.below h) hc hf hkc hoc
 have e1:=@FP q ts;have e2:=@ae.Kq q ts;have e3:=@Bi q ts;generalize q.check ts=R at *;generalize lg q.src.xs q.lh q.keys.xs q.sums.xs q.aQ.xs q.ord.xs=FB at *;generalize xU ts q.src.xs q.lh q.group q.keys.xs q.sums.xs q.aQ.xs q.ord.xs=QB at *;generalize fo ts=CB at *;obtain⟨src,bY,aI,wh,group,keys,sums,aQ,ord⟩:=q;clear hx hq hkc hoc;unfold ae.cells ah.val at *;simp only at *
 cases CB
 ·have HF:=Zh (e1 rfl);clear hC2 J9 e1 e2 e3;go_enter Tryz.func32,Tryz.ntmps32;go_wp2_with fail;refine (yX _ (bU _ _)).mono ?_;clear yX;rintro e w2 ⟨rfl,hb2⟩;go_wp2;go_ret;exact⟨Qe HF.out,aG (bU _ _) hb2⟩
 ·cases FB
  ·have Gb:=Zh (J9 rfl rfl);clear J9;have HF:=Zh (e3 rfl rfl);clear e1 e2 e3;go_enter Tryz.func32,Tryz.ntmps32;go_wp2_with fail;refine (yX _ (bU _ _)).mono ?_;clear yX;rintro e w2 ⟨rfl,hb2⟩;have hz:w.heap.size<w2.heap.size:=by have:=hb2.size; simp at this; omega
   have hcell:=uN hb2;simp at hcell;have k2:=aG (bU _ _) hb2;go_wp2_with fail;refine (hC2 _ k2).mono ?_;clear hC2;rintro e w3 ⟨rfl,hb3⟩;have Vn:=uN hb3;have k3:=aG k2 hb3;go_wp2_with fail;refine (Gb.out _ k3).mono ?_;clear Gb;rintro e w4 ⟨rfl,hb4⟩
   cases QB
   ·have HF':Hid ((3:Int)=R):=HF.out.symm;go_wp2;go_ret;exact⟨Qe HF'.out,aG k3 hb4⟩
   ·have HF':Hid ((0:Int)=R):=HF.out.symm;go_wp2;go_ret;exact⟨Qe HF'.out,aG k3 hb4⟩
  ·have HF:=Zh (e2 rfl rfl);clear J9 e1 e2 e3;go_enter Tryz.func32,Tryz.ntmps32;go_wp2_with fail;refine (yX _ (bU _ _)).mono ?_;clear yX;rintro e w2 ⟨rfl,hb2⟩;have hz:w.heap.size<w2.heap.size:=by have:=hb2.size; simp at this; omega
   have hcell:=uN hb2;simp at hcell;have k2:=aG (bU _ _) hb2;go_wp2_with fail;refine (hC2 _ k2).mono ?_;clear hC2;rintro e w3 ⟨rfl,hb3⟩;go_wp2;go_ret;exact⟨Qe HF.out,aG k2 hb3⟩
