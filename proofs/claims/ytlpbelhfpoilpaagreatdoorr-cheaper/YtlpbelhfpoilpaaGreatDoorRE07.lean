import Derived.Test.YtlpbelhfpoilpaaGreatDoorRE01
import Derived.Test.YtlpbelhfpoilpaaGreatDoorRE03
set_option linter.all false
set_option maxRecDepth 100000
set_option maxHeartbeats 16000000
namespace Go.Proofs.Zz
open Go.RowKit Go.Shelf
variable {a b:Int} {ts:List af} {q:ae}
theorem Yt(a:Addr)(x:World)(c:Int)(h0:0<=c)(h4:c<=4) :
  (Instr.sliceAt 78 (.pointer (some a)) none (some (.int .i64 c)) none).run Tryz.prog x=.ok (.slice (some a) c.toNat 4) x:=by
 have hal:Tryz.prog.arrayLen 78=4:=by kernel_rfl
 have hel:Tryz.prog.elem 78=3:=by kernel_rfl
 rw[run_sliceAt_array_h x 78 a (by rw[hal,hel]; exact Tryz.underlying78) .i64 c h0 (by rw[hal]; omega),hal,hel];simp[slicedAt,Addr.add]
theorem Kq(t:af)(w:World) :
  Cb 186 #[.agg t.vals] w (.bool (dV t)):=by
 have HBAD:=@Nb t;have HBK:=@IZ t;have HG:=@I4 t;have hkd:=fun m hm=>af.acf w t 80 m hm
 generalize dV t=B at *;unfold af.vals;by_cases h1:t.aO<1∨4<t.aO∨t.rows<0∨1000000<t.rows
 ·have HF:=Zh ((HBAD h1).symm);clear HBAD HBK HG hkd;go_enter Tryz.func186,Tryz.ntmps186;go_wp2
  all_goals
   go_ret;exact⟨Qg HF.o,dn _ _⟩
 ·have l1:1<=t.aO:=by omega
  have l2:t.aO<=4:=by omega
  have l3:0<=t.rows:=by omega
  have l4:t.rows<=1000000:=by omega
  have akI:=Zh HBK;have HG':=Zh HG;have HK:=Zh hkd;clear HBAD HBK HG h1 hkd;have hsl:=fun (a:Addr) (x:World)=>Yt a x t.aO (by omega) (by omega)
  go_enter Tryz.func186,Tryz.ntmps186;go_wp2;go_loop [28] (fun i=>∃ m:Nat,m<=t.aO.toNat/\i=.int .i64 m/\Hid (∀ j,j<m->1<=t.kd j/\t.kd j<=1000000)) (fun i=>t.aO.toNat-(intOf i).toNat)
  case atStart=>exact⟨0,Q8 _,rfl,fun j hj=>absurd hj (by omega)⟩
  case round=>
   obtain⟨m,hm,rfl,HM⟩:=hrel;by_cases Ka:m<t.aO.toNat
   ·have aqF:(m:Int)<t.aO:=by omega
    have hkm:=HK.o m (by omega);by_cases hk1:t.kd m<1
    ·have HF:=Zh ((akI.o m Ka (by omega)).symm);go_wp2;go_ret;exact⟨Qg HF.o,dn _ _⟩
    ·by_cases hk2:1000000<t.kd m
     ·have HF:=Zh ((akI.o m Ka (by omega)).symm);go_wp2;go_ret;exact⟨Qg HF.o,dn _ _⟩
     ·go_wp2;go_round
      case rel=>
       refine⟨m+1,by omega,by go_num,fun j hj=>?_⟩;by_cases hjm:j=m
       ·subst hjm; omega
       ·exact HM.o j (by omega)
      case measure=>simp[intOf]; omega
   ·have aqF:¬ (m:Int)<t.aO:=by omega
    have HF:=Zh ((HG'.o l1 l2 l3 l4 (fun j hj=>HM.o j (by omega))).symm);go_wp2;go_ret;exact⟨Qg HF.o,dn _ _⟩
theorem Oy(t:af)(w:World) :
  Cb 185 #[.agg t.vals] w (.bool (!dV t)):=by
 have hC:=fun x=>Kq t x
 generalize dV t=B at *;unfold af.vals at *;go_enter Tryz.func185,Tryz.ntmps185;go_wp2_with (go_at_call 186; refine(hC _).mono ?_; rintro e w' ⟨rfl,hb⟩);go_ret;exact⟨Qg rfl,aA (dn _ _) hb⟩
theorem Oz(ao:Option Addr)(cap:Nat)(ts:List af)(w:World)(hx:aZ w ao ts) :
  Calls Tryz.prog 257 #[.slice ao ts.length cap,.func (.func 185) #[] #[]] w fun e w'=>∃ r,e=.returned (.int .i64 r)/\foundAt r (ts.any fun t=>!dV t)/\Bw w w':=by
 have hl:=hx.1;go_enter Tryz.func257,Tryz.ntmps257;go_wp2;go_loopw [8] (fun i wr=>∃ k:Nat,k<=ts.length/\i=.int .i64 k/\Hid (∀ j,j<k->(!dV (ts.getD j tz))=false)/\Bw w wr) (fun i _=>ts.length-(intOf i).toNat)
 case atStart=>exact⟨0,Q8 _,rfl,fun j hj=>absurd hj (by omega),Qw _ _⟩
 case round=>
  obtain⟨k,hk,rfl,HP,hb⟩:=hrel;by_cases hlt:k<ts.length
  ·obtain⟨b,off,rfl,c0,c1,c2,c3,c4,c5⟩:=hx.2 k hlt;have e0:=cB hb c0;have e1:=cB hb c1;have e2:=cB hb c2;have e3:=cB hb c3;have e4:=cB hb c4;have e5:=cB hb c5;have HA:Hid ((!dV (ts.getD k tz))=true->(ts.any fun t=>!dV t)=true):=fun h=>Gf (z:=tz) hlt h
   have hC:=Oy (ts.getD k tz) wr;unfold af.vals at hC;generalize hge:ts.getD k tz=t at *;have yR:=Zh hge;go_wp2_with fail;refine hC.mono ?_;rintro e w2 ⟨rfl,hb2⟩
   cases hB:dV t
   ·rw[hB]at HA;go_wp2;go_ret;exact⟨_,Qh rfl,⟨by omega,by rw[HA.o rfl]; simp⟩,aA hb hb2⟩
   ·have HB:=Zh hB;go_wp2;go_roundw
    case rel=>
     refine⟨k+1,by omega,by go_num,fun j hj=>?_,aA hb hb2⟩;by_cases hjk:j=k
     ·subst hjk; rw[yR.o,HB.o]; rfl
     ·exact HP.o j (by omega)
    case measure=>simp[intOf]; omega
  ·have HA:Hid ((ts.any fun t=>!dV t)=false):=any_none (z:=tz) (fun j hj=>HP.o j (by omega));go_wp2;go_ret;exact⟨_,Qh rfl,⟨by omega,by rw[HA.o]; rfl⟩,hb⟩
theorem D9(ao:Option Addr)(cap:Nat)(ts:List af)(w:World)(hx:aZ w ao ts) :
  Cb 184 #[.slice ao ts.length cap,.func (.func 185) #[] #[]] w (.bool (ts.any fun t=>!dV t)):=by
 have hC:=Oz ao cap ts w hx;go_enter Tryz.func184,Tryz.ntmps184;go_wp2_with fail;refine hC.mono ?_;rintro e w2 ⟨r,rfl,hr,hb2⟩;have HR:=Zh hr.2;go_wp2;go_ret;exact⟨Qg HR.o,hb2⟩
theorem Co(ao:Option Addr)(cap:Nat)(ts:List af)(w:World)(hx:aZ w ao ts) :
  Cb 121 #[.slice ao ts.length cap] w (.bool (gI ts)):=by
 have hl:=hx.1;by_cases h0:ts.length<1
 ·go_enter Tryz.func121,Tryz.ntmps121;go_wp2;go_ret;exact⟨Qg (Nc h0),Qw _ _⟩
 by_cases h8:8<ts.length
 ·go_enter Tryz.func121,Tryz.ntmps121;go_wp2;go_ret;exact⟨Qg (SV h8),Qw _ _⟩
 have hC:=D9 ao cap ts w hx;have HA:=Zh (WE h0 h8);generalize (ts.any fun t=>!dV t)=Y at *;go_enter Tryz.func121,Tryz.ntmps121;go_wp2_with fail;refine hC.mono ?_;rintro e w2 ⟨rfl,hb2⟩;go_wp2;go_ret;exact⟨Qg HA.o,hb2⟩
theorem sO(n b:Int)(w:World) :
  Ce 261 #[.int .i64 n,.int .i64 b] w (.bool (yV n b)):=by
 by_cases h1:0<=n
 ·go_enter Tryz.func261,Tryz.ntmps261;go_wp2;go_ret;exact⟨Qg (by simp[yV]; omega),rfl⟩
 ·go_enter Tryz.func261,Tryz.ntmps261;go_wp2;go_ret;exact⟨Qg (by simp[yV]; omega),rfl⟩
theorem GR(n:Int)(w:World) :
  Ce 271 #[.int .i64 n] w (.bool (decide (-1000<=n)&&decide (n<=1000))):=by
 by_cases h1:-1000<=n
 ·go_enter Tryz.func271,Tryz.ntmps271;go_wp2;go_ret;exact⟨Qg (by simp; omega),rfl⟩
 ·go_enter Tryz.func271,Tryz.ntmps271;go_wp2;go_ret;exact⟨Qg (by simp; omega),rfl⟩
theorem Ea(n b:Int)(p o:Nat)(w:World)(hp:w.cell? (aD p o)=some (.int .i64 b)) :
  Ce 260 #[.int .i64 n,.pointer (some (aD p o))] w (.bool (!yV n b)):=by
 have hC:=sO n b w;generalize yV n b=Y at *;go_enter Tryz.func260,Tryz.ntmps260;go_wp2_with fail;refine hC.mono ?_;clear hC;rintro e w2 ⟨rfl,rfl⟩;go_wp2;go_ret;exact⟨Qg rfl,rfl⟩
theorem OA(ao:Option Addr)(cap:Nat)(xs:List Int)(bd:Int)(p o:Nat)(w:World)(hx:aB w ao xs)(hp:w.cell? (aD p o)=some (.int .i64 bd)) :
  Calls Tryz.prog 326 #[.slice ao xs.length cap,.func (.func 260) #[] #[.pointer (some (aD p o))]] w fun e w'=>∃ r,e=.returned (.int .i64 r)/\foundAt r (xs.any fun x=>!yV x bd)/\w' = w:=by
 have hl:=hx.1;go_enter Tryz.func326,Tryz.ntmps326;go_wp2;go_loop [8] (fun i=>∃ k:Nat,k<=xs.length/\i=.int .i64 k/\Hid (∀ j,j<k->(!yV (xs.getD j 0) bd)=false)) (fun i=>xs.length-(intOf i).toNat)
 case atStart=>exact⟨0,Q8 _,rfl,fun j hj=>absurd hj (by omega)⟩
 case round=>
  obtain⟨k,hk,rfl,HP⟩:=hrel;by_cases hlt:k<xs.length
  ·obtain⟨b,off,rfl,hc⟩:=hx.get hlt;have hck:=hc k hlt;have HA:Hid ((!yV (xs.getD k 0) bd)=true->(xs.any fun x=>!yV x bd)=true):=fun h=>Gf (z:=0) hlt h
   have hC:=Ea (xs.getD k 0) bd p o w hp;have yR:Hid (xs.getD k 0=xs.getD k 0):=rfl;generalize hge:xs.getD k 0=x at *;have yR:=Zh hge;clear hge hc hx hp;go_wp2_with fail;refine hC.mono ?_;clear hC;rintro e w2 ⟨rfl,rfl⟩
   cases hB:yV x bd
   ·rw[hB]at HA;go_wp2;go_ret;exact⟨_,Qh rfl,⟨by omega,by rw[HA.o rfl]; simp⟩,rfl⟩
   ·have HB:=Zh hB;clear hB;go_wp2;go_round
    case rel=>
     refine⟨k+1,by omega,by go_num,fun j hj=>?_⟩;by_cases hjk:j=k
     ·subst hjk; rw[yR.o,HB.o]; rfl
     ·exact HP.o j (by omega)
    case measure=>simp[intOf]; omega
  ·have HA:Hid ((xs.any fun x=>!yV x bd)=false):=any_none (z:=0) (fun j hj=>HP.o j (by omega));go_wp2;go_ret;exact⟨_,Qh rfl,⟨by omega,by rw[HA.o]; rfl⟩,rfl⟩
theorem Eb(ao:Option Addr)(cap:Nat)(xs:List Int)(bd:Int)(p o:Nat)(w:World)(hx:aB w ao xs)(hp:w.cell? (aD p o)=some (.int .i64 bd)) :
  Ce 259 #[.slice ao xs.length cap,.func (.func 260) #[] #[.pointer (some (aD p o))]] w (.bool (xs.any fun x=>!yV x bd)):=by
 have hC:=OA ao cap xs bd p o w hx hp;go_enter Tryz.func259,Tryz.ntmps259;go_wp2_with fail;refine hC.mono ?_;clear hC;rintro e w2 ⟨r,rfl,hr,rfl⟩;have HR:=Zh hr.2;clear hr;go_wp2;go_ret;exact⟨Qg HR.o,rfl⟩
theorem ll(ao:Option Addr)(cap:Nat)(xs:List Int)(bd:Int)(w:World)(hx:aB w ao xs) :
  Cb 189 #[.slice ao xs.length cap,.int .i64 bd] w (.bool (bN xs bd)):=by
 have hC:=Eb ao cap xs bd w.heap.size 0 (w.alloc (.cells #[.int .i64 bd] 3)) (hx.below (dn _ _)) (by simp);have HA:=Zh (WG xs bd);generalize (xs.any fun x=>!yV x bd)=Y at *;go_enter Tryz.func189,Tryz.ntmps189;go_wp2_with fail;refine hC.mono ?_;clear hC;rintro e w2 ⟨rfl,rfl⟩;go_wp2;go_ret;exact⟨Qg HA.o,dn _ _⟩
theorem eqB(h:a=b):(a==b)=true:=by simpa using h
theorem neB(h:¬ a=b):(a==b)=false:=by simpa using h
theorem OC(ao:Option Addr)(cap:Nat)(xs:List Int)(v:Int)(w:World)(hx:aB w ao xs) :
  Calls Tryz.prog 327 #[.slice ao xs.length cap,.int .i64 v] w fun e w'=>∃ r,e=.returned (.int .i64 r)/\foundAt r (xs.any fun x=>decide (v=x))/\w' = w:=by
 have hl:=hx.1;go_enter Tryz.func327,Tryz.ntmps327;go_wp2;go_loop [8] (fun i=>∃ k:Nat,k<=xs.length/\i=.int .i64 k/\Hid (∀ j,j<k->decide (v=xs.getD j 0)=false)) (fun i=>xs.length-(intOf i).toNat)
 case atStart=>exact⟨0,Q8 _,rfl,fun j hj=>absurd hj (by omega)⟩
 case round=>
  obtain⟨k,hk,rfl,HP⟩:=hrel;by_cases hlt:k<xs.length
  ·obtain⟨b,off,rfl,hc⟩:=hx.get hlt;have hck:=hc k hlt;have HA:Hid (decide (v=xs.getD k 0)=true->(xs.any fun x=>decide (v=x))=true):=fun h=>Gf (z:=0) hlt h
   generalize hge:xs.getD k 0=x at *;have yR:=Zh hge;clear hge hc hx;by_cases Uf:v=x
   ·have hb:=eqB Uf;have HV:=Zh Uf;clear Uf;go_wp2;go_ret;exact⟨_,Qh rfl,⟨by omega,by rw[HA.o (QD HV.o)]; simp⟩,rfl⟩
   ·have hb:=neB Uf;have HV:=Zh Uf;clear Uf;go_wp2;go_round
    case rel=>
     refine⟨k+1,by omega,by go_num,fun j hj=>?_⟩;by_cases hjk:j=k
     ·subst hjk; rw[yR.o]; exact Ql HV.o
     ·exact HP.o j (by omega)
    case measure=>simp[intOf]; omega
  ·have HA:Hid ((xs.any fun x=>decide (v=x))=false):=any_none (z:=0) (fun j hj=>HP.o j (by omega));go_wp2;go_ret;exact⟨_,Qh rfl,⟨by omega,by rw[HA.o]; rfl⟩,rfl⟩
theorem Ec(ao:Option Addr)(cap:Nat)(xs:List Int)(v:Int)(w:World)(hx:aB w ao xs) :
  Ce 263 #[.slice ao xs.length cap,.int .i64 v] w (.bool (xs.any fun x=>decide (v=x))):=by
 have hC:=OC ao cap xs v w hx;go_enter Tryz.func263,Tryz.ntmps263;go_wp2_with fail;refine hC.mono ?_;clear hC;rintro e w2 ⟨r,rfl,hr,rfl⟩;have HR:=Zh hr.2;clear hr;go_wp2;go_ret;exact⟨Qg HR.o,rfl⟩
theorem aB.front{w:World}{ao:Option Addr}{xs:List Int}(h:aB w ao xs){k:Nat}(hk:k<=xs.length):aB w ao (xs.take k):=by
 have hl:(xs.take k).length=k:=by rw[Zm]; omega
 refine⟨by have:=h.1; omega,fun i hi=>?_⟩;obtain⟨b,off,e,hc⟩:=h.2 i (by omega);refine⟨b,off,e,?_⟩;rw[hc];simp[List.getD,show i<k by omega]
theorem lV(ao:Option Addr)(cap:Nat)(xs:List Int)(w:World)(hx:aB w ao xs)(hcap:xs.length<=cap) :
  Ce 194 #[.slice ao xs.length cap] w (.bool (di xs)):=by
 have hl:=hx.1;go_enter Tryz.func194,Tryz.ntmps194;go_wp2;go_loop [7] (fun i=>∃ k:Nat,k<=xs.length/\i=.int .i64 k/\Hid (∀ i,i<k->∀ j,j<i->xs.getD i 0≠xs.getD j 0)) (fun i=>xs.length-(intOf i).toNat)
 case atStart=>exact⟨0,Q8 _,rfl,fun i hi=>absurd hi (by omega)⟩
 case round=>
  obtain⟨k,hk,rfl,HP⟩:=hrel;by_cases hlt:k<xs.length
  ·have hfr:=aB.front hx hk;obtain⟨b,off,rfl,hc⟩:=hx.get hlt;have hck:=hc k hlt;have hC:=Ec (some (aD b off)) cap (xs.take k) (xs.getD k 0) w hfr;have hlen:(xs.take k).length=k:=by rw[Zm]; omega
   rw[hlen]at hC;have HT:Hid (((xs.take k).any fun x=>decide (xs.getD k 0=x))=true->∃ j,j<k/\xs.getD k 0=xs.getD j 0):=fun h=>by
    rw[List.any_eq_true]at h;obtain⟨x,hx,hd⟩:=h;obtain⟨j,hj,rfl⟩:=QC hx;have hjk:j<k:=by omega
    have:=XV hd;refine⟨j,hjk,this.trans ?_⟩;have hjl:j<xs.length:=by omega
    simp[List.getD,hjl]
   have HN:Hid (((xs.take k).any fun x=>decide (xs.getD k 0=x))=false->∀ j,j<k->xs.getD k 0≠xs.getD j 0):=fun h j hj he=>by
    rw[List.any_eq_false]at h;have hjl:j<xs.length:=by omega
    refine h ((xs.take k)[j]'(by omega)) (Qp _) (QD ?_);rw[he];simp[List.getD,hjl]
   generalize hY:((xs.take k).any fun x=>decide (xs.getD k 0=x))=Y at *;clear hY hlen hfr hc hx;generalize hge:xs.getD k 0=x at *;have yR:=Zh hge;clear hge;go_wp2_with fail;refine hC.mono ?_;clear hC;rintro e w2 ⟨rfl,rfl⟩
   cases Y
   ·go_wp2;go_round
    case rel=>
     refine⟨k+1,by omega,by go_num,fun i hi=>?_⟩;by_cases hik:i=k
     ·subst hik; rw[yR.o]; exact HN.o (by trivial)
     ·exact HP.o i (by omega)
    case measure=>simp[intOf]; omega
   ·obtain⟨j,hj,he⟩:=HT.o rfl;have HF:=Zh (Na hlt hj (by rw[yR.o]; exact he));clear he;go_wp2;go_ret;exact⟨Qg HF.o,rfl⟩
  ·go_wp2;go_ret;have hkk:k=xs.length:=by omega
   subst hkk;exact⟨Qg (IY HP.o),rfl⟩
theorem GU(c:aC)(n:Int)(w:World) :
  Cb 262 #[c.val,.int .i64 n] w (.bool (fu c n)):=by
 have hin:=@WI c n;have h01:=@vz c n;have h02:=@yX c n;have Wl:=@I7 c n;have h04:=@I8 c n;obtain⟨nt,op,left,const,right⟩:=c;unfold aC.val;simp only at hin h01 h02 Wl h04;generalize fu ⟨nt,op,left,const,right⟩ n=B at *;have AU:=fun x=>sO left n x
 have hC2:=fun x=>sO right n x
 have MQ:=fun x=>GR right x
 generalize yV right n=Y at *;generalize (decide (-1000<=right)&&decide (right<=1000))=Z at *
 cases hL:yV left n
 ·have HF:=Zh (hin hL);rw[hL]at AU;clear hin h01 h02 Wl h04 hC2 MQ hL;go_enter Tryz.func262,Tryz.ntmps262;go_wp2_with fail;refine(AU _).mono ?_;clear AU;rintro e w2 ⟨rfl,rfl⟩;go_wp2;go_ret;exact⟨Qg HF.o,dn _ _⟩
 ·rw[hL]at AU;by_cases ho:op=0∨op=1
  ·cases const
   ·have HF:=Zh (h02 hL ho rfl);clear hin h01 h02 Wl h04 MQ hL;rcases ho with ho | ho
    all_goals
     subst ho;go_enter Tryz.func262,Tryz.ntmps262;go_wp2_with fail;refine(AU _).mono ?_;rintro e w2 ⟨rfl,rfl⟩;go_wp2_with fail;refine(hC2 _).mono ?_;rintro e w3 ⟨rfl,rfl⟩;go_wp2;go_ret;exact⟨Qg HF.o,dn _ _⟩
   ·have HF:=Zh (h01 hL ho rfl);clear hin h01 h02 Wl h04 hC2 hL;rcases ho with ho | ho
    all_goals
     subst ho;go_enter Tryz.func262,Tryz.ntmps262;go_wp2_with fail;refine(AU _).mono ?_;rintro e w2 ⟨rfl,rfl⟩;go_wp2_with fail;refine(MQ _).mono ?_;rintro e w3 ⟨rfl,rfl⟩;go_wp2;go_ret;exact⟨Qg HF.o,dn _ _⟩
  ·by_cases h2:op=2
   ·have HF:Hid ((!const&&decide (right=0))=B):=Wl hL h2;clear hin h01 h02 Wl h04 hC2 MQ hL ho;subst h2
    cases const
    ·by_cases h3:right=0
     ·have HF':=Zh (show true=B by have:=HF.o; simpa [h3] using this);have hb:=eqB h3;clear HF h3;go_enter Tryz.func262,Tryz.ntmps262;go_wp2_with fail;refine(AU _).mono ?_;rintro e w2 ⟨rfl,rfl⟩;go_wp2;go_ret;exact⟨Qg HF'.o,dn _ _⟩
     ·have HF':=Zh (show false=B by have:=HF.o; simpa [h3] using this);have hb:=neB h3;clear HF h3;go_enter Tryz.func262,Tryz.ntmps262;go_wp2_with fail;refine(AU _).mono ?_;rintro e w2 ⟨rfl,rfl⟩;go_wp2;go_ret;exact⟨Qg HF'.o,dn _ _⟩
    ·have HF':=Zh (show false=B by have:=HF.o; simpa using this);go_enter Tryz.func262,Tryz.ntmps262;go_wp2_with fail;refine(AU _).mono ?_;rintro e w2 ⟨rfl,rfl⟩;go_wp2;go_ret;exact⟨Qg HF'.o,dn _ _⟩
   ·have HF:=Zh (h04 (by omega) (by omega) h2);have b0:(op==0)=false:=neB (by omega);have b1:(op==1)=false:=neB (by omega);have b2:=neB h2;clear hin h01 h02 Wl h04 hC2 MQ hL ho h2;go_enter Tryz.func262,Tryz.ntmps262;go_wp2_with fail;refine(AU _).mono ?_;rintro e w2 ⟨rfl,rfl⟩;go_wp2;go_ret;exact⟨Qg HF.o,dn _ _⟩
structure Chk(ts:List af)(q:ae):Prop where
 cat:gI ts=true
 src:bN q.src.xs ts.length=true
 five:q.src.xs.length<=5
 eight:q.wh.length<=8
 aO:Fa ts q
 some:∀ i,i<q.wh.length->0<(q.wh.getD i lz).cs.length
 three:∀ i,i<q.wh.length->(q.wh.getD i lz).cs.length<=3
theorem Chk.ok(h:Chk ts q):Ok ts q:=⟨h.cat,h.src,by have:=h.five; omega,by have:=h.eight; omega,h.aO,h.some⟩
theorem zu(h:q.check ts=0):Chk ts q/\0<q.src.xs.length/\(q.group=false->bN q.ord.xs q.aV.xs.length=true)/\q.ord.xs.length<=4/\bN q.aV.xs (aJ ts q.src.xs)=true:=by
 unfold ae.check checkN at h
 cases hc:gI ts with
 | false => rw[Qy hc]at h; omega
 | true =>
  rw[Qz (by rw[hc]; simp)]at h
  cases hf:mO q.src.xs q.mP q.keys.xs q.sums.xs q.aV.xs q.ord.xs with
  | true => rw[Qy hf]at h; omega
  | false =>
   rw[Qz (by rw[hf]; simp)]at h;by_cases hr:bN q.src.xs ts.length=true/\0<q.src.xs.length/\fw q.mP (aJ ts q.src.xs)=true/\uM (aJ ts q.src.xs) q.group q.keys.xs q.sums.xs q.aV.xs q.ord.xs=true
   ·obtain⟨h1,h2,h3,h4⟩:=hr;unfold mO at hf;rw[Bool.or_eq_false_iff,Qk]at hf;obtain⟨f1,f2⟩:=hf;have hwl:q.mP.length=q.wh.length:=by unfold ae.mP; simp
    have hget:∀ i,i<q.wh.length->(q.wh.getD i lz).cs∈q.mP:=fun i hi=>by
     unfold ae.mP;rw[Zi];exact⟨q.wh.getD i lz,by simp[List.getD,hi],rfl⟩
    unfold fw at h3;rw[Qu]at h3;have hcl:∀ i,i<q.wh.length->0<(q.wh.getD i lz).cs.length/\∀ c∈(q.wh.getD i lz).cs,fu c (aJ ts q.src.xs)=true:=fun i hi=>by
     have:=h3 _ (hget i hi);unfold iV at this;rw[Qt,QJ,Qu]at this;exact this
    unfold uM at h4;simp only[Qt]at h4;obtain⟨⟨⟨⟨⟨⟨⟨r1,_⟩,_⟩,r4⟩,_⟩,_⟩,_⟩,_⟩:=h4;refine⟨⟨hc,h1,by omega,by omega,?_,fun i hi=>(hcl i hi).1,fun i hi=>?_⟩,h2,fun hg=>?_,by omega,r1⟩
    ·intro i hi c hm;unfold cO at hm;rw[XC]at hm;obtain⟨x,hx,hcx⟩:=hm;have hb:=(hcl i hi).2 x hx;unfold fu at hb;simp only[Qt,QJ]at hb;obtain⟨⟨⟨⟨b1,b2⟩,b3⟩,b4⟩,b5⟩:=hb;unfold aN at hcx;split at hcx
     ·rename_i hop
      rw[Qz hop.1,hop.2]at b5;simp only[Bool.false_eq_true,if_false,Qt,QJ]at b5;simp only[Q4,List.not_mem_nil,or_false]at hcx;rcases hcx with rfl | rfl
      ·exact⟨b1,b2⟩
      ·exact⟨b5.1,by omega⟩
     ·simp only[Q4,List.not_mem_nil,or_false]at hcx;subst hcx;exact⟨b1,b2⟩
    ·rw[List.any_eq_false]at f2;have:=f2 _ (hget i hi);simp only[QJ]at this;omega
    ·rw[hg]at r4;exact r4
   ·rw[Qz hr]at h; omega
theorem Lm(ad:Option Addr)(n cap:Nat)(w:World) :
  Cb 188 #[.agg #[.slice ad n cap]] w (.bool (decide (3<n))):=by
 go_enter Tryz.func188,Tryz.ntmps188;go_wp2;go_ret;exact⟨Qg (decide_eq_decide.2 (by omega)),dn _ _⟩
theorem Pt(ao:Option Addr)(cap:Nat)(ls:List aH)(w:World)(hx:gH w ao ls) :
  Calls Tryz.prog 258 #[.slice ao ls.length cap,.func (.func 188) #[] #[]] w fun e w'=>∃ r,e=.returned (.int .i64 r)/\foundAt r (ls.any fun c=>decide (3<c.cs.length))/\Bw w w':=by
 have hl:=hx.1;go_enter Tryz.func258,Tryz.ntmps258;go_wp2;go_loopw [8] (fun i wr=>∃ k:Nat,k<=ls.length/\i=.int .i64 k/\Hid (∀ j,j<k->decide (3<(ls.getD j lz).cs.length)=false)/\Bw w wr) (fun i _=>ls.length-(intOf i).toNat)
 case atStart=>exact⟨0,Q8 _,rfl,fun j hj=>absurd hj (by omega),Qw _ _⟩
 case round=>
  obtain⟨k,hk,rfl,HP,hb⟩:=hrel;by_cases hlt:k<ls.length
  ·obtain⟨b,off,rfl,hc⟩:=hx.2.1.get hlt;have hck:=cB hb (hc k hlt);unfold aH.val at hck;have HA:Hid (decide (3<(ls.getD k lz).cs.length)=true->(ls.any fun c=>decide (3<c.cs.length))=true):=fun h=>Gf (p:=fun c:aH=>decide (3<c.cs.length)) (z:=lz) hlt h
   generalize (ls.getD k lz).ad=ad at *;generalize (ls.getD k lz).cap=cp at *;generalize hge:(ls.getD k lz).cs.length=cl at *;have yR:=Zh hge;have hC:=Lm ad cl cp wr;clear hge hc hx;by_cases h3:3<cl
   ·rw[QD h3]at hC;go_wp2_with fail;refine hC.mono ?_;clear hC;rintro e w2 ⟨rfl,hb2⟩;go_wp2;go_ret;exact⟨_,Qh rfl,⟨by omega,by rw[HA.o (QD h3)]; simp⟩,aA hb hb2⟩
   ·rw[Ql h3]at hC;go_wp2_with fail;refine hC.mono ?_;clear hC;rintro e w2 ⟨rfl,hb2⟩;go_wp2;go_roundw
    case rel=>
     refine⟨k+1,by omega,by go_num,fun j hj=>?_,aA hb hb2⟩;by_cases hjk:j=k
     ·subst hjk; rw[yR.o]; exact Ql (by omega)
     ·exact HP.o j (by omega)
    case measure=>simp[intOf]; omega
  ·have HA:Hid ((ls.any fun c=>decide (3<c.cs.length))=false):=any_none (z:=lz) (fun j hj=>HP.o j (by omega));go_wp2;go_ret;exact⟨_,Qh rfl,⟨by omega,by rw[HA.o]; rfl⟩,hb⟩
theorem Ey(ao:Option Addr)(cap:Nat)(ls:List aH)(w:World)(hx:gH w ao ls) :
  Cb 187 #[.slice ao ls.length cap,.func (.func 188) #[] #[]] w (.bool (zV ls ls.length)):=by
 have hC:=Pt ao cap ls w hx;rw[WH]at hC;go_enter Tryz.func187,Tryz.ntmps187;go_wp2_with fail;refine hC.mono ?_;clear hC;rintro e w2 ⟨r,rfl,hr,hb2⟩;have HR:=Zh hr.2;clear hr;go_wp2;go_ret;exact⟨Qg HR.o,hb2⟩
theorem Pv(q:ae)(w:World)(hq:gH w q.bY q.wh) :
  Cb 122 #[.agg q.cells] w (.bool (mO q.src.xs q.mP q.keys.xs q.sums.xs q.aV.xs q.ord.xs)):=by
 have HE:=Zh q.Ry;generalize mO q.src.xs q.mP q.keys.xs q.sums.xs q.aV.xs q.ord.xs=FB at *;have hC:=fun o=>Ey q.bY q.aI q.wh (w.alloc o) (hq.below (dn _ _))
 have hwl:=hq.1;clear hq;obtain⟨src,bY,aI,wh,group,keys,sums,aV,ord⟩:=q;simp only at HE hC hwl;unfold ae.cells ah.val;simp only;by_cases hf:5<src.xs.length∨8<wh.length∨8<aV.xs.length∨4<keys.xs.length∨4<sums.xs.length∨4<ord.xs.length
 ·have HF:=Zh (show true=FB by rw[HE.o,QD hf,Bool.true_or]);clear hC HE;have hcase:(5<src.xs.length)∨(¬ 5<src.xs.length/\8<wh.length)∨(¬ 5<src.xs.length/\¬ 8<wh.length/\4<ord.xs.length)∨(¬ 5<src.xs.length/\¬ 8<wh.length/\¬ 4<ord.xs.length/\8<aV.xs.length)∨
   (¬ 5<src.xs.length/\¬ 8<wh.length/\¬ 4<ord.xs.length/\¬ 8<aV.xs.length/\4<keys.xs.length)∨(¬ 5<src.xs.length/\¬ 8<wh.length/\¬ 4<ord.xs.length/\¬ 8<aV.xs.length/\¬ 4<keys.xs.length/\4<sums.xs.length):=by omega
  clear hf;rcases hcase with h1 | ⟨h1,h2⟩ | ⟨h1,h2,h3⟩ | ⟨h1,h2,h3,h4⟩ | ⟨h1,h2,h3,h4,h5⟩ | ⟨h1,h2,h3,h4,h5,h6⟩
  all_goals
   go_enter Tryz.func122,Tryz.ntmps122;go_wp2;go_ret;exact⟨Qg HF.o,dn _ _⟩
 ·have HF:=Zh (show zV wh wh.length=FB by rw[HE.o,Ql hf,Bool.false_or]);have h1:¬ 5<src.xs.length:=by omega
  have h2:¬ 8<wh.length:=by omega
  have h3:¬ 8<aV.xs.length:=by omega
  have h4:¬ 4<keys.xs.length:=by omega
  have h5:¬ 4<sums.xs.length:=by omega
  have h6:¬ 4<ord.xs.length:=by omega
  clear HE hf;generalize zV wh wh.length=Y at *;go_enter Tryz.func122,Tryz.ntmps122;go_wp2_with fail;refine(hC _).mono ?_;clear hC;rintro e w2 ⟨rfl,hb2⟩;go_wp2;go_ret;exact⟨Qg HF.o,aA (dn _ _) hb2⟩
theorem Hw(q:ae)(w:World)(h1:q.keys.xs.length<=1000)(h2:q.sums.xs.length<=1000) :
  Cb 193 #[.agg q.cells] w (.int .i64 (Bo q.group q.keys.xs q.sums.xs q.aV.xs)):=by
 obtain⟨src,bY,aI,wh,group,keys,sums,aV,ord⟩:=q;simp only at h1 h2;unfold ae.cells ah.val
 cases group
 ·go_enter Tryz.func193,Tryz.ntmps193;go_wp2;go_ret;exact⟨Qh rfl,dn _ _⟩
 ·go_enter Tryz.func193,Tryz.ntmps193;go_wp2;go_ret;exact⟨Qh rfl,dn _ _⟩
theorem zH(ao:Option Addr)(cap:Nat)(ts:List af)(rH:Option Addr)(jq:Nat)(xs:List Int)(w:World)(hx:aZ w ao ts)(hc:gI ts=true)(hq:aB w rH xs)(h5:xs.length<=5)(ha:bN xs ts.length=true) :
  Ce 190 #[.slice ao ts.length cap,.slice rH xs.length jq] w (.int .i64 (aJ ts xs)):=by
 have HC:=Zh hc;have HA:=Zh ha;clear hc ha;go_enter Tryz.func190,Tryz.ntmps190;go_wp2;go_loop [5,10] (fun n i=>∃ k:Nat,k<=xs.length/\i=.int .i64 k/\n=.int .i64 (aJ ts (xs.take k))) (fun _ i=>xs.length-(intOf i).toNat)
 case atStart=>exact⟨0,Q8 _,rfl,rfl⟩
 case round=>
  obtain⟨k,hk,rfl,rfl⟩:=hrel;have hbd:=tV HC.o HA.o k hk;by_cases hlt:k<xs.length
  ·obtain⟨sb,asy,rfl,hs⟩:=hq.get hlt;have hsk:=hs k hlt;have hr:=mV HA.o hlt;have kS:=qx HC.o (i:=xs[k].toNat) (by omega);obtain⟨b,off,rfl,c0,-⟩:=hx.2 xs[k].toNat (by omega);have HS:=Zh (kM ts xs k hlt);generalize (ts.getD xs[k].toNat tz).aO=cc at *;generalize aJ ts (xs.take k)=W0 at *;clear hs hx hq;go_wp2;go_round
   case rel=>exact⟨k+1,by omega,by go_num,by rw[HS.o]⟩
   case measure=>simp[intOf]; omega
  ·go_wp2;go_ret;have:k=xs.length:=by omega
   subst this;exact⟨Qh (by rw[QA]),rfl⟩
theorem Hy{ls:List aH}{n:Int}{k:Nat}(hk:k<ls.length)(h:iV (ls.getD k lz).cs n=false):false=fw (ls.map aH.cs) n:=
 (@Gb ⟨⟨none,0,[]⟩,none,0,ls,false,⟨none,0,[]⟩,⟨none,0,[]⟩,⟨none,0,[]⟩,⟨none,0,[]⟩⟩ n k hk h).symm
theorem Ez{ls:List aH}{n:Int}(h:∀ k,k<ls.length->iV (ls.getD k lz).cs n=true):true=fw (ls.map aH.cs) n:=
 (@DK ⟨⟨none,0,[]⟩,none,0,ls,false,⟨none,0,[]⟩,⟨none,0,[]⟩,⟨none,0,[]⟩,⟨none,0,[]⟩⟩ n h).symm
theorem Hz(ao:Option Addr)(cap:Nat)(ls:List aH)(n:Int)(w:World)(hx:gH w ao ls) :
  Cb 191 #[.slice ao ls.length cap,.int .i64 n] w (.bool (fw (ls.map aH.cs) n)):=by
 have hl:=hx.1;have HBD:Hid _:=@Hy ls n;have HGD:Hid _:=@Ez ls n;generalize fw (ls.map aH.cs) n=R at *;go_enter Tryz.func191,Tryz.ntmps191;go_wp2;go_loopw [11] (fun i wr=>∃ k:Nat,k<=ls.length/\i=.int .i64 k/\Hid (∀ j,j<k->iV (ls.getD j lz).cs n=true)/\Bw w wr) (fun i _=>ls.length-(intOf i).toNat)
 case atStart=>exact⟨0,Q8 _,rfl,fun j hj=>absurd hj (by omega),Qw _ _⟩
 case round=>
  obtain⟨k,hk,rfl,HP,hb⟩:=hrel;by_cases hlt:k<ls.length
  ·obtain⟨b,off,rfl,hc⟩:=hx.2.1.get hlt;have hck:=cB hb (hc k hlt);have hcd:=hx.2.2 k hlt;have HBc:Hid (iV (ls.getD k lz).cs n=false->false=R):=fun h=>HBD.o hlt h
   generalize hge:ls.getD k lz=cl at *;have yR:=Zh hge;clear hge hc hx;obtain⟨ad,cp,cs⟩:=cl;unfold aH.val at hck;simp only at hck hcd;have Pw:=hcd.1;have hbs:=hb.size;by_cases hc0:cs.length=0
   ·have HF:=Zh (HBc.o (Gc (by simp only; omega)));go_wp2;go_ret;exact⟨Qg HF.o,hb.alloc hbs _⟩
   ·have hc0':((cs.length:Int)==0)=false:=by simpa using hc0
    have HC0:=Zh hc0;clear hc0;go_wp2;go_loopw [22] (fun i wr2=>∃ m:Nat,m<=cs.length/\i=.int .i64 m/\Hid (∀ j,j<m->fu (cs.getD j cz) n=true)/\Bw w wr2) (fun i _=>cs.length-(intOf i).toNat)
    case atStart=>exact⟨0,Q8 _,rfl,fun j hj=>absurd hj (by omega),hb.alloc hbs _⟩
    case round=>
     obtain⟨m,hm,rfl,HM,hb2⟩:=hrel;have adB:=hb2.size;clear hck hc0';by_cases Ka:m<cs.length
     ·obtain⟨b2,afX,rfl,c0,c1,c2,c3,c4⟩:=hcd.2 m Ka;have d0:=cB hb2 c0;have d1:=cB hb2 c1;have d2:=cB hb2 c2;have d3:=cB hb2 c3;have d4:=cB hb2 c4;clear c0 c1 c2 c3 c4;have hC:=fun x=>GU (cs.getD m cz) n x
      unfold aC.val at hC;generalize hgc:cs.getD m cz=cc at *;have HGC:=Zh hgc;clear hgc
      cases hcb:fu cc n
      ·rw[hcb]at hC;have HF:=Zh (HBc.o (I5 Ka (by rw[HGC.o]; exact hcb)));go_wp2_with fail;refine(hC _).mono ?_;clear hC;rintro e w4 ⟨rfl,hb4⟩;go_wp2;go_ret;exact⟨Qg HF.o,aA (hb2.alloc adB _) hb4⟩
      ·rw[hcb]at hC;have aic:=Zh hcb;clear hcb;go_wp2_with fail;refine(hC _).mono ?_;clear hC;rintro e w4 ⟨rfl,hb4⟩;go_wp2;go_roundw
       case rel=>
        refine⟨m+1,by omega,by go_num,fun j hj=>?_,aA (hb2.alloc adB _) hb4⟩;by_cases hjm:j=m
        ·subst hjm; rw[HGC.o]; exact aic.o
        ·exact HM.o j (by omega)
       case measure=>simp[intOf]; omega
     ·have HG:=Zh (Gd (by have:=HC0.o; omega) (fun j hj=>HM.o j (by omega)));go_wp2;go_roundw
      case rel=>
       refine⟨k+1,by omega,by go_num,fun j hj=>?_,hb2⟩;by_cases hjk:j=k
       ·subst hjk; rw[yR.o]; exact HG.o
       ·exact HP.o j (by omega)
      case measure=>simp[intOf]; omega
  ·have HF:=Zh (HGD.o (fun j hj=>HP.o j (by omega)));go_wp2;go_ret;exact⟨Qg HF.o,hb⟩
def tJ(n:Int)(group:Bool)(keys sums aV:List Int):Bool:=
 if group then decide (aV.length=0)&&bN sums n&&bN keys n&&di keys else decide (0<aV.length)&&bN aV n&&decide (keys.length=0)&&decide (sums.length=0)
theorem CR(q:ae)(n:Int)(w:World)(hk:q.keys.At w)(hs:q.sums.At w)(he:q.aV.At w)(hkc:q.keys.xs.length<=q.keys.cap) :
  Cb 192 #[.agg q.cells,.int .i64 n] w (.bool (tJ n q.group q.keys.xs q.sums.xs q.aV.xs)):=by
 obtain⟨src,bY,aI,wh,group,⟨l8,eO,keys⟩,⟨FV,qi,sums⟩,⟨ead,asz,aV⟩,ord⟩:=q;unfold ah.At at hk hs he;simp only at hk hs he hkc;unfold ae.cells ah.val;simp only;have hel:=he.1;have AU:=fun x (h:Bw w x)=>ll ead asz aV n x (Qv h he)
 have hC2:=fun x (h:Bw w x)=>ll FV qi sums n x (Qv h hs)
 have MQ:=fun x (h:Bw w x)=>ll l8 eO keys n x (Qv h hk)
 have hC4:=fun x (h:Bw w x)=>lV l8 eO keys x (Qv h hk) hkc
 clear hk hs he;have HE:Hid (tJ n group keys sums aV=tJ n group keys sums aV):=rfl;generalize hR:tJ n group keys sums aV=R at *;clear HE;unfold tJ at hR;generalize bN aV n=A1 at *;generalize bN sums n=A2 at *;generalize bN keys n=A3 at *;generalize di keys=A4 at *
 cases group
 ·simp only[Bool.false_eq_true,if_false]at hR;clear hC2 MQ hC4;by_cases h0:0<aV.length
  ·rw[QD h0,QE]at hR
   cases A1
   ·have HF:=Zh (show false=R by rw[<- hR]; rfl);clear hR;go_enter Tryz.func192,Tryz.ntmps192;go_wp2_with fail;refine(AU _ (dn _ _)).mono ?_;clear AU;rintro e w2 ⟨rfl,hb2⟩;go_wp2;go_ret;exact⟨Qg HF.o,aA (dn _ _) hb2⟩
   ·rw[QE]at hR;by_cases h1:keys.length=0
    ·have h1':((keys.length:Int)==0)=true:=by simpa using h1
     have HF:=Zh (show ((sums.length:Int)==0)=R by rw[<- hR,QD h1,QE,acg]);clear hR h1;go_enter Tryz.func192,Tryz.ntmps192;go_wp2_with fail;refine(AU _ (dn _ _)).mono ?_;clear AU;rintro e w2 ⟨rfl,hb2⟩;have hcell:=wY hb2;simp at hcell;go_wp2;go_ret;exact⟨Qg HF.o,aA (dn _ _) hb2⟩
    ·have h1':((keys.length:Int)==0)=false:=by simpa using h1
     have HF:=Zh (show false=R by rw[<- hR,Ql h1]; rfl);clear hR h1;go_enter Tryz.func192,Tryz.ntmps192;go_wp2_with fail;refine(AU _ (dn _ _)).mono ?_;clear AU;rintro e w2 ⟨rfl,hb2⟩;have hcell:=wY hb2;simp at hcell;go_wp2;go_ret;exact⟨Qg HF.o,aA (dn _ _) hb2⟩
  ·have HF:=Zh (show false=R by rw[<- hR,Ql h0]; rfl);clear hR;go_enter Tryz.func192,Tryz.ntmps192;go_wp2;go_ret;exact⟨Qg HF.o,dn _ _⟩
 ·simp only[if_true]at hR;clear AU;by_cases h0:0<aV.length
  ·have HF:=Zh (show false=R by rw[<- hR,Ql (by omega)]; rfl);clear hR;go_enter Tryz.func192,Tryz.ntmps192;go_wp2;go_ret;exact⟨Qg HF.o,dn _ _⟩
  ·rw[QD (show aV.length=0 by omega),QE]at hR
   cases A2
   ·have HF:=Zh (show false=R by rw[<- hR]; rfl);clear hR;go_enter Tryz.func192,Tryz.ntmps192;go_wp2_with fail;refine(hC2 _ (dn _ _)).mono ?_;clear hC2;rintro e w2 ⟨rfl,hb2⟩;go_wp2;go_ret;exact⟨Qg HF.o,aA (dn _ _) hb2⟩
   ·rw[QE]at hR
    cases A3
    ·have HF:=Zh (show false=R by rw[<- hR]; rfl);clear hR;go_enter Tryz.func192,Tryz.ntmps192;go_wp2_with fail;refine(hC2 _ (dn _ _)).mono ?_;clear hC2;rintro e w2 ⟨rfl,hb2⟩;have hcell:=wY hb2;simp at hcell;go_wp2_with fail;refine(MQ _ (aA (dn _ _) hb2)).mono ?_;clear MQ;rintro e w3 ⟨rfl,hb3⟩;go_wp2;go_ret;exact⟨Qg HF.o,aA (aA (dn _ _) hb2) hb3⟩
    ·have HF:=Zh (show A4=R by rw[<- hR,QE]);clear hR;go_enter Tryz.func192,Tryz.ntmps192;go_wp2_with fail;refine(hC2 _ (dn _ _)).mono ?_;clear hC2;rintro e w2 ⟨rfl,hb2⟩;have hcell:=wY hb2;simp at hcell;go_wp2_with fail;refine(MQ _ (aA (dn _ _) hb2)).mono ?_;clear MQ;rintro e w3 ⟨rfl,hb3⟩;have hz:w.heap.size<w2.heap.size:=by have:=hb2.size; simp at this; omega
     have YD:=wY hb3;go_wp2_with fail;refine(hC4 _ (aA (aA (dn _ _) hb2) hb3)).mono ?_;clear hC4;rintro e w4 ⟨rfl,rfl⟩;go_wp2;go_ret;exact⟨Qg HF.o,aA (aA (dn _ _) hb2) hb3⟩
theorem Px(n:Int)(group:Bool)(keys sums aV ord:List Int) :
  uM n group keys sums aV ord=(tJ n group keys sums aV&&(bN ord (Bo group keys sums aV)&&di ord)):=by
 unfold uM tJ;generalize bN ord (Bo group keys sums aV)=O;generalize di ord=P
 cases group
 ·by_cases hs:aV.length=0
  ·have:¬ 0<aV.length:=by omega
   simp[hs]
  ·have h1:=Ql hs;have h2:decide (0<aV.length)=true:=QD (by omega);rw[h1,h2];by_cases hk:keys.length=0
   ·by_cases hu:sums.length=0
    ·have hk':=QL hk;have hu':=QL hu;subst hk' hu';have ha:di []=true:=by decide
     rw[ha]
     cases bN aV n <;> cases O <;> cases P <;> rfl
    ·rw[Ql hu,Ql (show ¬ keys.length+sums.length=0 by omega)];simp
   ·rw[Ql hk,Ql (show ¬ keys.length+sums.length=0 by omega)];simp
 ·by_cases hs:aV.length=0
  ·have hs':=QL hs;subst hs';have h1:bN [] n=true:=rfl;rw[h1]
   cases bN sums n <;> cases bN keys n <;> cases di keys <;> cases O <;> cases P <;> rfl
  ·rw[Ql hs];simp
def zI(ts:List af)(src:List Int)(wh:List (List aC))(group:Bool)(keys sums aV ord:List Int):Bool:=
 decide (0<src.length)&&(bN src ts.length&&(fw wh (aJ ts src)&&(tJ (aJ ts src) group keys sums aV&&(bN ord (Bo group keys sums aV)&&di ord))))
theorem Lp{src:List Int}{wh:List (List aC)}{group:Bool}{keys sums aV ord:List Int}(hc:gI ts=true)(hf:mO src wh keys sums aV ord=false) :
  checkN ts src wh group keys sums aV ord=if zI ts src wh group keys sums aV ord then 0 else 3:=by
 unfold checkN zI;rw[Qz (by simp[hc]),Qz (by simp[hf]),Px];generalize (tJ (aJ ts src) group keys sums aV&&(bN ord (Bo group keys sums aV)&&di ord))=X;by_cases h0:0<src.length
 ·rw[QD h0]
  cases bN src ts.length <;> cases fw wh (aJ ts src) <;> cases X <;> simp[h0]
 ·rw[Ql h0];simp[h0]
theorem Lr(ao:Option Addr)(cap:Nat)(ts:List af)(q:ae)(w:World)(hx:aZ w ao ts)(hq:q.At w)(hc:gI ts=true)
  (hf:mO q.src.xs q.mP q.keys.xs q.sums.xs q.aV.xs q.ord.xs=false) (hkc:q.keys.xs.length<=q.keys.cap) (hoc:q.ord.xs.length<=q.ord.cap) :
  Cb 123 #[.slice ao ts.length cap,.agg q.cells] w (.bool (zI ts q.src.xs q.mP q.group q.keys.xs q.sums.xs q.aV.xs q.ord.xs)):=by
 have hlen:¬ (5<q.src.xs.length∨8<q.wh.length∨8<q.aV.xs.length∨4<q.keys.xs.length∨4<q.sums.xs.length∨4<q.ord.xs.length):=by
  intro h;rw[ae.Ry,QD h,Bool.true_or]at hf
  cases hf
 have hOW:=fun x=>Hw q x (by omega) (by omega)
 have YA:=fun n x (h:Bw w x)=>CR q n x (Qv h hq.keys) (Qv h hq.sums) (Qv h hq.aV) hkc
 unfold zI;obtain⟨src,bY,aI,wh,group,keys,sums,aV,ord⟩:=q;have hsrc:aB w src.ad src.xs:=hq.src;have si:aB w ord.ad ord.xs:=hq.ord;have FL:gH w bY wh:=hq.wh;have amj:(ae.mk src bY aI wh group keys sums aV ord).mP=wh.map aH.cs:=rfl;simp only[amj]at *;clear amj hq hf;unfold ae.cells ah.val at *;simp only at *;have h1:src.xs.length<=5:=by omega
 have Ls:=fun x (h:Bw w x)=>ll src.ad src.cap src.xs ts.length x (hsrc.below h)
 have Pw:=fun n x (h:Bw w x)=>Hz bY aI wh n x (FL.below h)
 have amk:=fun x (h:Bw w x)=>ll ord.ad ord.cap ord.xs (Bo group keys.xs sums.xs aV.xs) x (si.below h)
 have aml:=fun x (h:Bw w x)=>lV ord.ad ord.cap ord.xs x (si.below h) hoc
 generalize hR:(decide (0<src.xs.length)&&(bN src.xs ts.length&&(fw (wh.map aH.cs) (aJ ts src.xs)&&(tJ (aJ ts src.xs) group keys.xs sums.xs aV.xs&&(bN ord.xs (Bo group keys.xs sums.xs aV.xs)&&di ord.xs)))))=R;by_cases h0:0<src.xs.length
 ·rw[QD h0,QE]at hR;have h0':((src.xs.length:Int)==0)=false:=by rw[Xr]; omega
  cases ha:bN src.xs ts.length
  ·rw[ha]at Ls hR;have HR:Hid (false=R):=hR;clear hR;go_enter Tryz.func123,Tryz.ntmps123;go_wp2_with fail;refine(Ls _ (dn _ _)).mono ?_;rintro e w2 ⟨rfl,hb2⟩;go_wp2;go_ret;exact⟨Qg HR.o,aA (dn _ _) hb2⟩
  ·have hcc:=fun x (h:Bw w x)=>zH ao cap ts src.ad src.cap src.xs x (hx.below h) hc (hsrc.below h) h1 ha
   rw[ha]at Ls hR;clear ha hc;rw[QE]at hR;have HR:=Zh hR;clear hR;generalize aJ ts src.xs=N at *;have Pw:=Pw N;have YA:=YA N;generalize fw (wh.map aH.cs) N=CB at *;generalize tJ N group keys.xs sums.xs aV.xs=FB at *;clear hx hsrc si FL hkc hoc;go_enter Tryz.func123,Tryz.ntmps123;go_wp2_with fail;refine(Ls _ (dn _ _)).mono ?_;clear Ls;rintro e w2 ⟨rfl,hb2⟩;have hz:w.heap.size<w2.heap.size:=by have:=hb2.size; simp at this; omega
   have hcell:=wY hb2;simp at hcell;have k2:=aA (dn _ _) hb2;go_wp2_with fail;refine(hcc _ k2).mono ?_;clear hcc;rintro e w3 ⟨rfl,rfl⟩;go_wp2_with fail;refine(Pw _ k2).mono ?_;clear Pw;rintro e w4 ⟨rfl,hb4⟩;have k4:=aA k2 hb4;have f0:w4.cell? (aD w.heap.size 0)=some (.slice src.ad src.xs.length src.cap):=cB hb4 (by rw[hcell _ _ (by omega)]; simp);have f1:w4.cell? (aD w.heap.size 1)=some (.slice bY wh.length aI):=cB hb4 (by rw[hcell _ _ (by omega)]; simp);have f2:w4.cell? (aD w.heap.size 2)=some (.bool group):=cB hb4 (by rw[hcell _ _ (by omega)]; simp);have f3:w4.cell? (aD w.heap.size 3)=some (.slice keys.ad keys.xs.length keys.cap):=cB hb4 (by rw[hcell _ _ (by omega)]; simp);have f4:w4.cell? (aD w.heap.size 4)=some (.slice sums.ad sums.xs.length sums.cap):=cB hb4 (by rw[hcell _ _ (by omega)]; simp);have f5:w4.cell? (aD w.heap.size 5)=some (.slice aV.ad aV.xs.length aV.cap):=cB hb4 (by rw[hcell _ _ (by omega)]; simp);have f6:w4.cell? (aD w.heap.size 6)=some (.slice ord.ad ord.xs.length ord.cap):=cB hb4 (by rw[hcell _ _ (by omega)]; simp);clear hcell hb4 k2 hb2
   cases CB
   ·go_wp2;go_ret;exact⟨Qg HR.o,k4⟩
   ·go_wp2_with fail;refine(YA _ k4).mono ?_;clear YA;rintro e w5 ⟨rfl,hb5⟩;have k5:=aA k4 hb5;have g0:=cB hb5 f0;have g1:=cB hb5 f1;have g2:=cB hb5 f2;have g3:=cB hb5 f3;have g4:=cB hb5 f4;have g5:=cB hb5 f5;have g6:=cB hb5 f6;clear f0 f1 f2 f3 f4 f5 f6 hb5 k4
    cases FB
    ·go_wp2;go_ret;exact⟨Qg HR.o,k5⟩
    ·go_wp2_with fail;generalize Bo group keys.xs sums.xs aV.xs=O at *;generalize bN ord.xs O=AO at *;generalize di ord.xs=PO at *;refine QG (by kernel_rfl) (by kernel_rfl) ?_;refine qS (.pointer (some (aD w.heap.size 6))) ?_;refine qC (.slice ord.ad ord.xs.length ord.cap) g6 ?_;go_big_quiet_want;refine⟨.agg #[.slice src.ad src.xs.length src.cap,.slice bY wh.length aI,.bool group,.slice keys.ad keys.xs.length keys.cap,.slice sums.ad sums.xs.length sums.cap,.slice aV.ad aV.xs.length aV.cap,.slice ord.ad ord.xs.length ord.cap],fun x hx=>?_,?_⟩
     ·have e0:=IJ hx g0 g1 g2 g3 g4 g5 g6;go_simp
     simp only[pU];go_big_quiet_on;go_big_quiet_want;refine⟨.int .i64 O,fun x hx=>?_,?_⟩
     ·have hC:=QH hx (hOW x);go_simp
     simp only[pU];go_big_quiet_on;go_big_quiet_want;refine⟨.bool AO,fun x hx=>?_,?_⟩
     ·have hC:=QH hx (amk x (aA k5 hx));go_simp
     simp only[pU];go_big_quiet_on;refine qS (.bool AO) ?_
     cases AO
     ·go_big_quiet_skip;go_big_quiet_skip;go_big_quiet_skip;refine qS (.bool false) ?_;refine qS (.bool false) ?_;refine Xv ?_;intro x hx;go_wp2;go_ret;exact⟨Qg HR.o,aA k5 hx⟩
     ·go_big_quiet_want;refine⟨.pointer (some (aD w.heap.size 6)),fun x hx=>?_,?_⟩
      ·go_simp
      simp only[pU];go_big_quiet_on;refine qC (.slice ord.ad ord.xs.length ord.cap) g6 ?_;go_big_quiet_want;refine⟨.bool PO,fun x hx=>?_,?_⟩
      ·have hC:=Calls.I6 hx (aml x (aA k5 hx));go_simp
      simp only[pU];go_big_quiet_on;refine qS (.bool PO) ?_;refine qS (.bool PO) ?_;refine Xv ?_;intro x hx;go_wp2;go_ret;exact⟨Qg HR.o,aA k5 hx⟩
 ·have h0':((src.xs.length:Int)==0)=true:=by rw[beq_iff_eq]; omega
  rw[Ql h0,Qm]at hR;have HR:=Zh hR;clear hR;clear hOW YA Ls Pw amk aml;go_enter Tryz.func123,Tryz.ntmps123;go_wp2;go_ret;exact⟨Qg HR.o,dn _ _⟩
theorem H5{q:ae}{ts:List af}(h:gI ts=false):(1:Int)=q.check ts:=ae.SX h
theorem CU{q:ae}{ts:List af}(hc:gI ts=true)(hf:mO q.src.xs q.mP q.keys.xs q.sums.xs q.aV.xs q.ord.xs=false) :
  q.check ts=if zI ts q.src.xs q.mP q.group q.keys.xs q.sums.xs q.aV.xs q.ord.xs then 0 else 3:=Lp hc hf
theorem wI(ao:Option Addr)(cap:Nat)(ts:List af)(q:ae)(w:World)(hx:aZ w ao ts)(hq:q.At w)(hkc:q.keys.xs.length<=q.keys.cap)(hoc:q.ord.xs.length<=q.ord.cap) :
  Cb 70 #[.slice ao ts.length cap,.agg q.cells] w (.int .i64 (q.check ts)):=by
 have AU:=fun x (h:Bw w x)=>Co ao cap ts x (hx.below h)
 have hC2:=fun x (h:Bw w x)=>Pv q x (hq.wh.below h)
 have MQ:=fun (hc:gI ts=true) (hf:mO q.src.xs q.mP q.keys.xs q.sums.xs q.aV.xs q.ord.xs=false) x (h:Bw w x)=>Lr ao cap ts q x (hx.below h) (hq.below h) hc hf hkc hoc
 have e1:=@H5 q ts;have e2:=@ae.Nf q ts;have e3:=@CU q ts;generalize q.check ts=R at *;generalize mO q.src.xs q.mP q.keys.xs q.sums.xs q.aV.xs q.ord.xs=FB at *;generalize zI ts q.src.xs q.mP q.group q.keys.xs q.sums.xs q.aV.xs q.ord.xs=QB at *;generalize gI ts=CB at *;obtain⟨src,bY,aI,wh,group,keys,sums,aV,ord⟩:=q;clear hx hq hkc hoc;unfold ae.cells ah.val at *;simp only at *
 cases CB
 ·have HF:=Zh (e1 rfl);clear hC2 MQ e1 e2 e3;go_enter Tryz.func70,Tryz.ntmps70;go_wp2_with fail;refine(AU _ (dn _ _)).mono ?_;clear AU;rintro e w2 ⟨rfl,hb2⟩;go_wp2;go_ret;exact⟨Qh HF.o,aA (dn _ _) hb2⟩
 ·cases FB
  ·have ML:=Zh (MQ rfl rfl);clear MQ;have HF:=Zh (e3 rfl rfl);clear e1 e2 e3;go_enter Tryz.func70,Tryz.ntmps70;go_wp2_with fail;refine(AU _ (dn _ _)).mono ?_;clear AU;rintro e w2 ⟨rfl,hb2⟩;have hz:w.heap.size<w2.heap.size:=by have:=hb2.size; simp at this; omega
   have hcell:=wY hb2;simp at hcell;have k2:=aA (dn _ _) hb2;go_wp2_with fail;refine(hC2 _ k2).mono ?_;clear hC2;rintro e w3 ⟨rfl,hb3⟩;have YD:=wY hb3;have k3:=aA k2 hb3;go_wp2_with fail;refine(ML.o _ k3).mono ?_;clear ML;rintro e w4 ⟨rfl,hb4⟩
   cases QB
   ·have HF':Hid ((3:Int)=R):=HF.o.symm;go_wp2;go_ret;exact⟨Qh HF'.o,aA k3 hb4⟩
   ·have HF':Hid ((0:Int)=R):=HF.o.symm;go_wp2;go_ret;exact⟨Qh HF'.o,aA k3 hb4⟩
  ·have HF:=Zh (e2 rfl rfl);clear MQ e1 e2 e3;go_enter Tryz.func70,Tryz.ntmps70;go_wp2_with fail;refine(AU _ (dn _ _)).mono ?_;clear AU;rintro e w2 ⟨rfl,hb2⟩;have hz:w.heap.size<w2.heap.size:=by have:=hb2.size; simp at this; omega
   have hcell:=wY hb2;simp at hcell;have k2:=aA (dn _ _) hb2;go_wp2_with fail;refine(hC2 _ k2).mono ?_;clear hC2;rintro e w3 ⟨rfl,hb3⟩;go_wp2;go_ret;exact⟨Qh HF.o,aA k2 hb3⟩
