import Derived.Test.YtbcgekghfgcakaaGreatDoorF06
import Derived.Test.YtbcgekghfgcakaaGreatDoorF37
set_option linter.all false
set_option maxRecDepth 100000
set_option maxHeartbeats 16000000
namespace Go.Proofs.Zz
open Go.RowKit Go.Shelf
theorem JR (v:cO) (n:Int) (w:World) (hr:v.At w) :
  Calls Tryz.prog 105 #[v.val,.int .i64 n] w fun e w'=>e=.returned (.bool (KX v.rs n))/\w' = w:=by
 obtain⟨ad,cap,rs⟩:=v;unfold cO.val;simp only;have hl:=hr.1;simp only at hl;have HR:Hid _:=hr;clear hr;go_enter Tryz.func105,Tryz.ntmps105;go_wp2;go_loopw [11] (fun i wr=>∃ k:Nat,k<=rs.length/\i=.int .i64 k/\Hid (KX (rs.take k) n=true)/\w=wr) (fun i _=>rs.length-(intOf i).toNat)
 case atStart=>exact⟨0,QQ _,rfl,rfl,rfl⟩
 case round=>
  obtain⟨k,hk,rfl,HP,rfl⟩:=hrel;by_cases hlt:k<rs.length
  ·obtain⟨b,off,rfl,hcs⟩:=HR.out.2.1.get hlt;have hck:=hcs k hlt;have hat:=HR.out.2.2 k hlt;have HBD:Hid (D7 (rs.getD k iz).xs n=false->false=KX rs n):=fun h=>(Gu (p:=fun r:ah=>D7 r.xs n) hlt h).symm
   have TZ:Hid (D7 (rs.getD k iz).xs n=true->KX (rs.take (k+1)) n=true):=fun h=>CV (p:=fun r:ah=>D7 r.xs n) hlt HP.out h
   generalize rs.getD k iz=x at *;obtain⟨zh,lC,xs⟩:=x;simp only at *;have Po:w.cell? (aD b (off+k))=some (.slice zh xs.length lC):=hck;have hxl:=hat.1;simp only at hxl;have HX:Hid _:=hat;clear hck hcs hat;by_cases hn:(xs.length:Int)=n
   ·have hne:((xs.length:Int) != n)=false:=by simpa using hn
    go_wp2;go_loopw [21] (fun i wr=>∃ m:Nat,m<=xs.length/\i=.int .i64 m/\Hid ((xs.take m).all yL=true)/\w=wr) (fun i _=>xs.length-(intOf i).toNat)
    case atStart=>exact⟨0,QQ _,rfl,rfl,rfl⟩
    case round=>
     obtain⟨m,hm,rfl,HV,rfl⟩:=hrel;by_cases Hw:m<xs.length
     ·obtain⟨xb,adr,rfl,J5⟩:=HX.out.get Hw;have hxm:=J5 m Hw;have HVB:Hid (yL (xs.getD m 0)=false->xs.all yL=false):=fun h=>Gu Hw h
      have HVG:Hid (yL (xs.getD m 0)=true->(xs.take (m+1)).all yL=true):=fun h=>CV Hw HV.out h
      generalize xs.getD m 0=y at *;clear J5;by_cases y0:y=1073741824
      ·have f0:(y != 1073741824)=false:=by simpa using y0
       have HY:Hid (yL y=true):=show _=_ by simp[yL,y0]
       clear y0;go_wp2;go_roundw
       case rel=>exact⟨m+1,by omega,by go_num,HVG.out HY.out,trivial⟩
       case measure=>simp[intOf]; omega
      ·have f0:(y != 1073741824)=true:=by simpa using y0
       by_cases y1:-1000<=y
       ·by_cases y2:y<=1000
        ·have HY:Hid (yL y=true):=show _=_ by simp[yL,y1,y2]
         clear y0;go_wp2;go_roundw
         case rel=>exact⟨m+1,by omega,by go_num,HVG.out HY.out,trivial⟩
         case measure=>simp[intOf]; omega
        ·have HY:=Zh (HBD.out (by unfold D7; rw[HVB.out (by simp[yL,y0,y2])]; simp));clear y0;go_wp2;go_ret;exact⟨Qd HY.out,rfl⟩
       ·have HY:=Zh (HBD.out (by unfold D7; rw[HVB.out (by simp[yL,y0,y1])]; simp));clear y0;go_wp2;go_ret;exact⟨Qd HY.out,rfl⟩
     ·have hmm:m=xs.length:=by omega
      subst hmm;rw[Qt] at HV;have HG2:=Zh (TZ.out (by unfold D7; rw[HV.out]; simp[hn]));go_wp2;go_roundw
      case rel=>exact⟨k+1,by omega,by go_num,HG2.out,trivial⟩
      case measure=>simp[intOf]; omega
   ·have hne:((xs.length:Int) != n)=true:=by simpa using hn
    have HY:=Zh (HBD.out (by unfold D7; simp[hn]));go_wp2;go_ret;exact⟨Qd HY.out,rfl⟩
  ·have hkk:k=rs.length:=by omega
   subst hkk;rw[Qt] at HP;have HPP:=Zh HP.out.symm;clear HP;go_wp2;go_ret;exact⟨Qd HPP.out,rfl⟩
theorem Bq (co:Option Addr) (cc:Nat) (ts:List af) (d:Option Addr) (rH:Nat) (db:List cO) (w:World) (hts:aJ w co ts) (JS:KW w d db) :
  Calls Tryz.prog 56 #[.slice co ts.length cc,.slice d db.length rH] w fun e w'=>e=.returned (.bool (decide (db.length=ts.length)&&J4 ts db))/\w' = w:=by
 have hl1:=hts.1;have HT:Hid _:=hts;have HD:Hid _:=JS;clear hts JS;by_cases hn:db.length=ts.length
 ·have hne:((db.length:Int) != (ts.length:Int))=false:=by rw[hn]; simp
  have hR:(decide (db.length=ts.length)&&J4 ts db)=J4 ts db:=by simp[hn]
  rw[hR];have HN:=Zh hn;clear hR hn;go_enter Tryz.func56,Tryz.ntmps56;go_wp2;go_loopw [14] (fun i wr=>∃ k:Nat,k<=db.length/\i=.int .i64 k/\Hid ((List.range k).all (fun i=>zy (db.getD i rz) (ts.getD i tz))=true)/\w=wr) (fun i _=>db.length-(intOf i).toNat)
  case atStart=>exact⟨0,QQ _,rfl,rfl,rfl⟩
  case round=>
   obtain⟨k,hk,rfl,HP,rfl⟩:=hrel;by_cases hlt:k<db.length
   ·obtain⟨b,off,rfl,hcs⟩:=HD.out.2.1.get hlt;have hck:=hcs k hlt;have hat:=HD.out.2.2 k hlt;have hlt2:k<ts.length:=by have:=HN.out; omega
    obtain⟨tb,aeI,rfl,t0,-,-,-,-,-⟩:=HT.out.2 k hlt2;have HBD:Hid (zy (db.getD k rz) (ts.getD k tz)=false->false=J4 ts db):=fun h=>(BH (p:=fun i=>zy (db.getD i rz) (ts.getD i tz)) hlt h).symm
    have TZ:Hid (zy (db.getD k rz) (ts.getD k tz)=true->(List.range (k+1)).all (fun i=>zy (db.getD i rz) (ts.getD i tz))=true):=fun h=>zA (p:=fun i=>zy (db.getD i rz) (ts.getD i tz)) HP.out h
    generalize db.getD k rz=x at *;generalize (ts.getD k tz)=tt at *;have hcon:=JR x tt.aH w hat;obtain⟨zh,lC,xs⟩:=x;obtain⟨aH,atF,k0,k1,k2,k3⟩:=tt;unfold cO.val at *;simp only at *;have hxl:=hat.1;simp only at hxl;clear hcs hat;by_cases h50:50<xs.length
    ·have HY:=Zh (HBD.out (by unfold zy; simp; omega));go_wp2;go_ret;exact⟨Qd HY.out,rfl⟩
    ·by_cases hf:KX xs aH=true
     ·have HY:=Zh (TZ.out (by unfold zy; simp[hf]; omega));rw[hf] at hcon;clear hf;go_wp2_with fail;refine hcon.mono ?_;rintro e w2 ⟨rfl,rfl⟩;go_wp2;go_roundw
      case rel=>exact⟨k+1,by omega,by go_num,HY.out,trivial⟩
      case measure=>simp[intOf]; omega
     ·have hf':KX xs aH=false:=by simpa using hf
      have HY:=Zh (HBD.out (by unfold zy; simp[hf']));rw[hf'] at hcon;clear hf hf';go_wp2_with fail;refine hcon.mono ?_;rintro e w2 ⟨rfl,rfl⟩;go_wp2;go_ret;exact⟨Qd HY.out,rfl⟩
   ·have hkk:k=db.length:=by omega
    subst hkk;have HPP:Hid (true=J4 ts db):=HP.out.symm;clear HP;go_wp2;go_ret;exact⟨Qd HPP.out,rfl⟩
 ·have hne:((db.length:Int) != (ts.length:Int))=true:=by simp; omega
  have hR:(decide (db.length=ts.length)&&J4 ts db)=false:=by simp[hn]
  rw[hR];clear hR;go_enter Tryz.func56,Tryz.ntmps56;go_wp2;go_ret;exact⟨rfl,rfl⟩
theorem TI (s:ah) (d:Option Addr) (rH:Nat) (db:List cO) (ts:List af) (w:World) (hs:s.At w) (JS:KW w d db) (ha:bG s.xs db.length=true) (hl:s.xs.length<=5) (hB:J4 ts db=true) :
  Calls Tryz.prog 57 #[s.val,.slice d db.length rH] w fun e w'=>e=.returned (.int .i64 (lS s.xs db))/\w' = w:=by
 obtain⟨pY,ig,src⟩:=s;unfold ah.val;simp only at *;have HS:Hid _:=hs;have HD:Hid _:=JS;have HA:=Zh ha;have HB:=Zh hB;clear hs JS ha hB;go_enter Tryz.func57,Tryz.ntmps57;go_wp2;go_loopw [5,10] (fun p i wr=>∃ k:Nat,k<=src.length/\i=.int .i64 k/\p=.int .i64 (lS (src.take k) db)/\w=wr) (fun _ i _=>src.length-(intOf i).toNat)
 case atStart=>exact⟨0,QQ _,rfl,rfl,rfl⟩
 case round=>
  obtain⟨k,hk,rfl,rfl,rfl⟩:=hrel;by_cases hlt:k<src.length
  ·have hr:=lu HA.out hlt;obtain⟨b1,o1,rfl,hc1⟩:=HS.out.get hlt;have hck:=hc1 k hlt;have hj:src[k].toNat<db.length:=by omega
   obtain⟨b2,o2,rfl,hc2⟩:=HD.out.2.1.get hj;have hcl:=hc2 _ hj;have hp1:=sK HB.out hl k;have hp2:=sK HB.out hl (k+1);have h50:=N9 HB.out src[k].toNat;rw[zB hlt] at hp2;have YJ:=Zh (zB (db:=db) hlt);have e1:src.getD k 0=src[k]:=by simp[List.getD,hlt]
   rw[e1] at hck;generalize db.getD src[k].toNat rz=x at *;generalize lS (src.take k) db=p at *;generalize Ut:src[k]=ck at *;clear e1 hc1 hc2 Ut;obtain⟨cn,rfl⟩:∃ cn:Nat,ck=(cn:Int):=⟨ck.toNat,by omega⟩
   simp only[Q3] at hj hcl;obtain⟨zh,lC,xs⟩:=x;unfold cO.val at *;simp only at *;have hmx:((max 1 xs.length:Nat):Int)=if (1:Int)<(xs.length:Int) then (xs.length:Int) else 1:=by split <;> omega
   have hw:wrap64 ((p:Int)*(if (1:Int)<(xs.length:Int) then (xs.length:Int) else 1))=((p*max 1 xs.length:Nat):Int):=by
    rw[<- hmx,<- Int.natCast_mul];unfold wrap64; omega
   have HWr:=Zh hw;have HWm:Hid (wrap64 ((p:Int)*max 1 (xs.length:Int))=((p*max 1 xs.length:Nat):Int)):=by
    show _=_
    rw[show max 1 (xs.length:Int)=((max 1 xs.length:Nat):Int) by omega,<- Int.natCast_mul];unfold wrap64; omega
   clear hw hmx;go_wp2;go_roundw
   case rel=>exact⟨k+1,by omega,by go_num,by rw[YJ.out]; first | exact congrArg (Value.int .i64) HWr.out | exact congrArg (Value.int .i64) HWm.out,trivial⟩
   case measure=>simp[intOf]; omega
  ·have hkk:k=src.length:=by omega
   subst hkk;rw[Qt];go_wp2;go_ret;exact⟨rfl,rfl⟩
theorem CE (co:Option Addr) (cc:Nat) (ts:List af) (q:ae) (d:Option Addr) (rH:Nat) (db:List cO) (w:World) (hts:aJ w co ts) (hq:q.src.At w) (JS:KW w d db) (ha:bG q.src.xs ts.length=true) (hl:q.src.xs.length<=5) :
  Calls Tryz.prog 33 #[.slice co ts.length cc,.agg q.cells,.slice d db.length rH] w fun e w'=>e=.returned (.int .i64 (if N8 ts q.src.xs db then 0 else 4))/\Below w.heap.size w w':=by
 have hb0:=bU w (.cells q.cells 26);have hc1:=Bq co cc ts d rH db _ (hts.below hb0) (JS.below hb0);have hbb:=hb0;have hD:N8 ts q.src.xs db=((decide (db.length=ts.length)&&J4 ts db)&&decide (lS q.src.xs db<=20000)):=rfl;by_cases h1:(decide (db.length=ts.length)&&J4 ts db)=true
 ·have h1':=h1;simp only[Qm,Qx] at h1';have hc2:=TI q.src d rH db ts _ (Qo hb0 hq) (JS.below hb0) (by rw[h1'.1]; exact ha) hl h1'.2;rw[h1] at hc1 hD;rw[hD];have hs:((lS q.src.xs db:Nat):Int) > 20000∨¬ ((lS q.src.xs db:Nat):Int) > 20000:=by omega
  have HB:=Zh hbb;clear hD h1 h1' hb0 hbb hts JS ha hl hq;obtain⟨⟨pY,ig,src⟩,bY,aI,wh,group,keys,sums,aQ,ord⟩:=q;unfold ae.cells ah.val at *;simp only at *;generalize lS src db=p at *;have hx0:(w.alloc (.cells #[.slice pY src.length ig,.slice bY wh.length aI,.bool group,.slice keys.ad keys.xs.length keys.cap,.slice sums.ad sums.xs.length sums.cap,.slice aQ.ad aQ.xs.length aQ.cap,.slice ord.ad ord.xs.length ord.cap] 26)).cell? (aD w.heap.size 0)=some (.slice pY src.length ig):=by simp
  rcases hs with hs | hs
  ·have hR:(if (true&&decide (p<=20000))=true then (0:Int) else 4)=4:=by rw[Qs]; simp; omega
   rw[hR];clear hR;go_enter Tryz.func33,Tryz.ntmps33;go_wp2_with fail;refine hc1.mono ?_;rintro e w2 ⟨rfl,rfl⟩;go_wp2_with fail;refine hc2.mono ?_;rintro e w2 ⟨rfl,rfl⟩;go_wp2;go_ret;exact⟨rfl,HB.out⟩
  ·have hR:(if (true&&decide (p<=20000))=true then (0:Int) else 4)=0:=by rw[Qr]; simp; omega
   rw[hR];clear hR;go_enter Tryz.func33,Tryz.ntmps33;go_wp2_with fail;refine hc1.mono ?_;rintro e w2 ⟨rfl,rfl⟩;go_wp2_with fail;refine hc2.mono ?_;rintro e w2 ⟨rfl,rfl⟩;go_wp2;go_ret;exact⟨rfl,HB.out⟩
 ·have h1':(decide (db.length=ts.length)&&J4 ts db)=false:=by simpa using h1
  rw[h1'] at hc1 hD;have hR:(if N8 ts q.src.xs db then (0:Int) else 4)=4:=by rw[hD]; rfl
  rw[hR];have HB:=Zh hbb;clear hD h1 h1' hb0 hbb hts JS ha hl hq hR;obtain⟨⟨pY,ig,src⟩,bY,aI,wh,group,keys,sums,aQ,ord⟩:=q;unfold ae.cells ah.val at *;simp only at *;go_enter Tryz.func33,Tryz.ntmps33;go_wp2_with fail;refine hc1.mono ?_;rintro e w2 ⟨rfl,rfl⟩;go_wp2;go_ret;exact⟨rfl,HB.out⟩
theorem CF (g:Nat) (lb:Array Value) (ao:Option Addr) (cap:Nat) (w:World) :
  Calls Tryz.prog 62 #[.func (.func g) #[] lb,.slice ao 0 cap] w fun e w'=>e=.returned (.func (.func g) #[] lb)/\w' = w:=by
 go_enter Tryz.func62,Tryz.ntmps62;go_wp2;go_ret;exact⟨rfl,rfl⟩
def jU (n:Nat):ae:=(⟨⟨some (aD (n+1) 0),1,[0]⟩,none,0,[],true,⟨none,0,[]⟩,⟨some (aD (n+1+1) 0),1,[0]⟩,⟨none,0,[]⟩,⟨none,0,[]⟩⟩:ae)
def rY (n:Nat):List cO:=[(⟨some (aD (n+1+1+1+1+1+1+1+1) 0),4,[⟨some (aD (n+1+1+1+1) 0),1,[4]⟩,⟨some (aD (n+1+1+1+1+1) 0),1,[3]⟩,⟨some (aD (n+1+1+1+1+1+1) 0),1,[3]⟩,⟨some (aD (n+1+1+1+1+1+1+1) 0),1,[1073741824]⟩]⟩:cO)]
def pI:List af:=[⟨1,10,10,0,0,0⟩]
theorem JU (n:Nat):(jU n).check pI=0:=rfl
theorem NR (n:Nat):N8 pI (jU n).src.xs (rY n)=true:=rfl
theorem holds0 (ao:Option Addr) (n cap:Nat) (w:World):Calls Tryz.prog 61 #[.slice none 0 0,.slice ao n cap] w fun e w'=>e=.returned (.bool true)/\w' = w:=by
 go_enter Tryz.func61,Tryz.ntmps61;go_wp2;go_loopw [9] (fun i wr=>i=.int .i64 0/\w=wr) (fun _ _=>0)
 case atStart=>exact⟨rfl,rfl⟩
 case round=>
  obtain⟨rfl,rfl⟩:=hrel;go_wp2;go_ret;exact⟨rfl,rfl⟩
theorem akT (bq:Nat) (ao:Option Addr) (n cap:Nat) (w:World) (hc:w.cell? (aD bq 1)=some (.slice none 0 0)):Calls Tryz.prog 60 #[.slice ao n cap,.pointer (some (aD bq 0))] w fun e w'=>e=.returned (.bool true)/\Below w.heap.size w w':=by
 have hcon:=holds0 ao n cap w;go_enter Tryz.func60,Tryz.ntmps60;go_wp2_with fail;refine hcon.mono ?_;rintro e w2 ⟨rfl,rfl⟩;go_wp2;go_ret;exact⟨rfl,Qp _ _⟩
theorem akU (b1 b2 rH:Nat) (rv:cO) (w:World) (h1:w.cell? (aD b1 0)=some (.int .i64 0)) (h2:w.cell? (aD b2 0)=some rv.val) (hr:gF w rv.ad rv.rs) :
  Calls Tryz.prog 59 #[.slice (some (aD b1 0)) 1 1,.slice (some (aD b2 0)) 1 rH] w fun e w'=>∃ v,e=.returned v/\qg bC Tryz.prog v (rv.rs.map (·.xs)) w'/\Below w.heap.size w w':=by
 have hcon:=Ro rv w hr;clear hr;obtain⟨zh,lC,xs⟩:=rv;unfold cO.val at *;simp only at *;go_enter Tryz.func59,Tryz.ntmps59;go_wp2_with fail;refine hcon.mono ?_;rintro e w2 ⟨v,rfl,hsv,hb2⟩;have Yl:Hid _:=hsv;obtain⟨g0,lb0,rfl,_,_⟩:=hsv;clear hcon;go_wp2
 all_goals
  go_loopw [5,18] (fun v i wr=>i=.int .i64 0/\v=.func (.func g0) #[] lb0/\w2=wr) (fun _ _ _=>0)
  case atStart=>exact⟨rfl,rfl,rfl⟩
  case round=>
   obtain⟨rfl,rfl,rfl⟩:=hrel;go_wp2;go_ret;exact⟨_,rfl,Yl.out,hb2⟩
structure OW (u:ah) (rows:List (List Int)):Prop where
 few:u.xs.length<=4
 len:rows.length<=1000
 fit:∀ r∈rows,bG u.xs r.length=true
 vals:∀ r∈rows,∀ v∈r,wE v
 sums:∀ n,∀ s∈lI u.xs (rows.take n),wE s
theorem JV (vi:Value) (s:ah) (rows:List (List Int)) (w:World) (hi:qg bC Tryz.prog vi rows w) (hs:s.At w) (h:OW s rows) :
  Calls Tryz.prog 111 #[vi,.slice none 0 0,s.val] w fun e w'=>∃ v,e=.returned v/\qg (pM 3) Tryz.prog v [(rows.length:Int)::lI s.xs rows] w'/\Below w.heap.size w w':=by
 obtain⟨gi,yM,rfl,YE,hsi⟩:=hi;have hh:=nu [.cells #[.func (.func gi) #[] yM] 83,.cells #[.slice none 0 0] 22,.cells #[s.val] 22] w;have HB:=Zh (lH [.cells #[.func (.func gi) #[] yM] 83,.cells #[.slice none 0 0] 22,.cells #[s.val] 22] w);have HS:Hid (qg (pM 3) Tryz.prog (.func (.func 161) #[] #[.pointer (some (aD w.heap.size 0)),.pointer (some (aD (w.heap.size+1) 0)),.pointer (some (aD (w.heap.size+1+1) 0))]) _ _):=
  ⟨_,_,rfl,enters_of Tryz.func161 (by kernel_rfl) rfl,NQ w.heap.size (w.heap.size+1) (w.heap.size+1+1) gi yM s rows _ (Xe (hh 0 (by simp)) rfl) (Xe (hh 1 (by simp)) rfl) (Xe (hh 2 (by simp)) rfl) (Seq.later _ hsi HB.out) YE (Qo HB.out hs) h.few h.len h.fit h.vals h.sums⟩
 obtain⟨pY,ig,pG⟩:=s;unfold ah.val at *;simp only[QO,List.foldl_nil] at *;clear hsi hs h hh;go_enter Tryz.func111,Tryz.ntmps111;go_wp2;go_ret;exact⟨_,rfl,HS.out,HB.out⟩
theorem acf (vi a:Value) (u:ah) (rows:List (List Int)) (w:World) (hi:qg bC Tryz.prog vi rows w) (hs:u.At w) (h:OW u rows) (h0:∃ x y z,a=.slice x y z) :
  Calls Tryz.prog 63 #[vi,.agg #[a,.slice none 0 0,.bool true,.slice none 0 0,u.val,.slice none 0 0,.slice none 0 0]] w fun e w'=>∃ v,e=.returned v/\qg (pM 3) Tryz.prog v [(rows.length:Int)::lI u.xs rows] w'/\Below w.heap.size w w':=by
 obtain⟨x,y,z,rfl⟩:=h0;have hb:=bU w (.cells #[.slice x y z,.slice none 0 0,.bool true,.slice none 0 0,u.val,.slice none 0 0,.slice none 0 0] 26);have hcon:=JV vi u rows _ (hi.later hb) (Qo hb hs) h;obtain⟨gi,yM,rfl,_,_⟩:=id hi;clear hi hs h;have HB:=Zh hb;clear hb;obtain⟨DD,nW,Gi⟩:=u;unfold ah.val at *;simp only at *;go_enter Tryz.func63,Tryz.ntmps63;go_wp2_with fail;refine hcon.mono ?_;rintro e w2 ⟨v,rfl,hs2,hb2⟩;have HS:Hid _:=hs2;obtain⟨g2,lb2,rfl,_,_⟩:=id hs2;clear hs2 hcon;go_wp2;go_ret;exact⟨_,rfl,HS.out,HB.out.trans (hb2.mono (by simp))⟩
theorem acg (b1 b2 rH:Nat) (u:ah) (rv:cO) (w:World) (h1:w.cell? (aD b1 0)=some (.int .i64 0)) (h2:w.cell? (aD b2 0)=some rv.val) (hr:gF w rv.ad rv.rs) (hu:u.At w) (h:OW u (rv.rs.map (·.xs))) :
  Calls Tryz.prog 35 #[.agg #[.slice (some (aD b1 0)) 1 1,.slice none 0 0,.bool true,.slice none 0 0,u.val,.slice none 0 0,.slice none 0 0],.slice (some (aD b2 0)) 1 rH] w fun e w'=>∃ v,e=.returned v/\qg (pM 3) Tryz.prog v [((rv.rs.map (·.xs)).length:Int)::lI u.xs (rv.rs.map (·.xs))] w'/\Below w.heap.size w w':=by
 obtain⟨w1,hw1,hb1,hg1⟩:=bu w #[.slice (some (aD b1 0)) 1 1,.slice none 0 0,.bool true,.slice none 0 0,u.val,.slice none 0 0,.slice none 0 0] 26;have hcm:=akU b1 b2 rH rv w1 (cB hb1 h1) (cB hb1 h2) (hr.below hb1);have HU:Hid _:=hu;have HB:=Zh hb1;have HK:Hid (∀ W (x:ah),Below w1.heap.size w1 W->Calls Tryz.prog 60 (#[x.val] ++ #[.pointer (some (aD w.heap.size 0))]) W fun e W'=>e=.returned (.bool true)/\Below W.heap.size W W'):=fun W x hW=>akT w.heap.size x.ad x.xs.length x.cap W (cB hW (hg1.at 1))
 have HOU:Hid (∀ vf W,qg bC Tryz.prog vf (rv.rs.map (·.xs)) W->Below w1.heap.size w1 W->Calls Tryz.prog 63 #[vf,.agg #[.slice (some (aD b1 0)) 1 1,.slice none 0 0,.bool true,.slice none 0 0,u.val,.slice none 0 0,.slice none 0 0]] W fun e w'=>∃ v,e=.returned v/\qg (pM 3) Tryz.prog v [((rv.rs.map (·.xs)).length:Int)::lI u.xs (rv.rs.map (·.xs))] w'/\Below W.heap.size W w'):=fun vf W hv hW=>acf vf _ u _ W hv (Qo (hb1.trans (hW.mono hb1.size)) hu) h ⟨_,_,_,rfl⟩
 obtain⟨c0,c1,c2,c3,c4,c5,c6⟩:=hg1.k7;clear h1 h2 hr hu h hb1 hg1;generalize [((rv.rs.map (·.xs)).length:Int)::lI u.xs (rv.rs.map (·.xs))]=RR at *;generalize rv.rs.map (·.xs)=rows at *;obtain⟨DD,nW,Gi⟩:=u;unfold ah.val at *;simp only at *;go_enter Tryz.func35,Tryz.ntmps35;go_wp2_with fail;refine hcm.mono ?_;rintro e w2 ⟨vc,rfl,hsc,hb2⟩;have hfm:=Ie vc 60 #[.pointer (some (aD w.heap.size 0))] rows (fun _=>true) w2 hsc (enters_of Tryz.func60 (by kernel_rfl) rfl) (fun W x hW hx hm=>HK.out W x (hb2.trans (hW.mono hb2.size)));rw[List.filter_eq_self.2 (fun _ _=>rfl)] at hfm;obtain⟨g2,lb2,rfl,_,_⟩:=id hsc;clear hsc hcm;go_wp2_with fail;refine hfm.mono ?_;rintro e w3 ⟨vf,rfl,hsf,hb3⟩;clear hfm;have iY:=hb2.trans (hb3.mono hb2.size);have d0:=cB iY c0;have d1:=cB iY c1;have d2:=cB iY c2;have d3:=cB iY c3;have d4:=cB iY c4;have d5:=cB iY c5;have d6:=cB iY c6;have hdr:Below w3.heap.size w3 w3.drew:=(Qp _ _).drew;have hou:=HOU.out vf w3.drew (hsf.later hdr) (iY.trans (hdr.mono iY.size));obtain⟨g3,lb3,rfl,_,_⟩:=id hsf;have FB:=Zh ((HB.out.trans (iY.mono HB.out.size)).drew);clear hsf iY hdr hb2 hb3 HOU c0 c1 c2 c3 c4 c5 c6;go_wp2;go_region_with (first | (refine hou.mono ?_; rintro e w4 ⟨v4,rfl,hs4,hb4⟩; have e6:=cB hb4 d6; obtain⟨g4,lb4,rfl,_,_⟩:=id hs4) | (refine (CF _ _ _ _ _).mono ?_; rintro e w5 ⟨rfl,rfl⟩))
 all_goals
  go_wp2;go_ret;exact⟨_,rfl,hs4,FB.out.trans (hb4.mono FB.out.size)⟩
theorem rZ {W:World} {b:Nat} {x:Int} {t:TypeId} (h:W.heap[b]? = some (.cells #[.int .i64 x] t)) (hl:b<W.heap.size):bC.At ⟨some (aD b 0),1,[x]⟩ W:=by
 refine⟨⟨by simp,fun i hi=>⟨b,0,rfl,?_⟩⟩,fun a ha=>by cases ha; exact hl,fun e=>by cases e⟩
 match i,hi with
 | 0,_ => exact Xe h rfl
def iU (n:Nat):List Obj:=[(.cells #[.int .i64 1,.int .i64 10,.int .i64 10,.int .i64 0,.int .i64 0,.int .i64 0] 54),(.cells #[.int .i64 0] 3),(.cells #[.int .i64 0] 3),(.cells #[.slice (some (aD (n+1) 0)) 1 1,.slice none 0 0,.bool true,.slice none 0 0,.slice (some (aD (n+1+1) 0)) 1 1,.slice none 0 0,.slice none 0 0] 26),(.cells #[.int .i64 4] 3),(.cells #[.int .i64 3] 3),(.cells #[.int .i64 3] 3),(.cells #[.int .i64 1073741824] 3),(.cells #[.slice (some (aD (n+1+1+1+1) 0)) 1 1,.slice (some (aD (n+1+1+1+1+1) 0)) 1 1,.slice (some (aD (n+1+1+1+1+1+1) 0)) 1 1,.slice (some (aD (n+1+1+1+1+1+1+1) 0)) 1 1] 22),(.cells #[.slice (some (aD (n+1+1+1+1+1+1+1+1) 0)) 4 4] 57)]
theorem Yw (w:World):aJ ((iU w.heap.size).foldl World.alloc w) (some (aD w.heap.size 0)) pI/\(jU w.heap.size).At ((iU w.heap.size).foldl World.alloc w)/\Ic ((iU w.heap.size).foldl World.alloc w) (some (aD (w.heap.size+1+1+1+1+1+1+1+1+1) 0)) (rY w.heap.size):=by
 have hh:=nu (iU w.heap.size) w;have hb:=(lH (iU w.heap.size) w).size;have h0:=hh 0 (by simp[iU]);have h1:=hh 1 (by simp[iU]);have h2:=hh 2 (by simp[iU]);have h4:=hh 4 (by simp[iU]);have h5:=hh 5 (by simp[iU]);have h6:=hh 6 (by simp[iU]);have h7:=hh 7 (by simp[iU]);have h8:=hh 8 (by simp[iU]);have h9:=hh 9 (by simp[iU]);generalize (iU w.heap.size).foldl World.alloc w=V at *;have lt:∀ {i:Nat} {o:Obj},V.heap[w.heap.size+i]? = some o->w.heap.size+i<V.heap.size:=fun h=>(QI.1 h).1
 have k1:=rZ h1 (lt h1);have k2:=rZ h2 (lt h2);have k4:=rZ h4 (lt h4);have k5:=rZ h5 (lt h5);have k6:=rZ h6 (lt h6);have k7:=rZ h7 (lt h7);have hrs:gF V (some (aD (w.heap.size+8) 0)) [⟨some (aD (w.heap.size+4) 0),1,[4]⟩,⟨some (aD (w.heap.size+5) 0),1,[3]⟩,⟨some (aD (w.heap.size+6) 0),1,[3]⟩,⟨some (aD (w.heap.size+7) 0),1,[1073741824]⟩]:=by
  refine⟨⟨by simp,fun i hi=>⟨w.heap.size+8,0,rfl,?_⟩,fun i hi=>?_⟩,fun a ha=>by cases ha; exact lt h8,fun i hi=>?_⟩
  ·match i,hi with
   | 0,_ => exact Xe h8 rfl
   | 1,_ => exact Xe h8 rfl
   | 2,_ => exact Xe h8 rfl
   | 3,_ => exact Xe h8 rfl
  ·match i,hi with
   | 0,_ => exact k4.1
   | 1,_ => exact k5.1
   | 2,_ => exact k6.1
   | 3,_ => exact k7.1
  ·match i,hi with
   | 0,_ => exact k4
   | 1,_ => exact k5
   | 2,_ => exact k6
   | 3,_ => exact k7
 have hnil:∀ W:World,au W none []:=fun W=>⟨by simp,fun i hi=>by simp at hi⟩
 refine⟨⟨by simp[pI],fun i hi=>⟨w.heap.size,0,rfl,?_⟩⟩,⟨k1.1,⟨by simp[jU],fun i hi=>by simp[jU] at hi,fun i hi=>by simp[jU] at hi⟩,hnil V,k2.1,hnil V,hnil V⟩,⟨⟨by simp[rY],fun i hi=>⟨w.heap.size+9,0,rfl,?_⟩,fun i hi=>?_⟩,fun i hi=>?_⟩⟩
 ·match i,hi with
  | 0,_ => exact⟨Xe h0 rfl,Xe h0 rfl,Xe h0 rfl,Xe h0 rfl,Xe h0 rfl,Xe h0 rfl⟩
 ·match i,hi with
  | 0,_ => exact Xe h9 rfl
 ·match i,hi with
  | 0,_ => exact hrs.1
 ·match i,hi with
  | 0,_ => exact hrs
theorem NT (a:Option Addr) (c:Nat):OW ⟨a,c,[0]⟩ [[4],[3],[3],[1073741824]]:=by
 refine⟨(by decide:1<=4),by decide,(by decide:∀ r∈[[4],[3],[3],[1073741824]],bG [0] (List.length (α:=Int) r)=true),by unfold wE; decide,fun n=>?_⟩
 show ∀ s∈lI [0] _,_
 unfold wE
 match n with
 | 0 => decide
 | 1 => decide
 | 2 => decide
 | 3 => decide
 | n+4 => rw[ZY (by simp)]; decide
theorem akV (co:Option Addr) (b2 cc rH n:Nat) (w:World) (hts:aJ w co pI) (hq:(jU n).At w) (JS:Ic w (some (aD b2 0)) (rY n)) :
  Calls Tryz.prog 18 #[.slice co 1 cc,.agg (jU n).cells,.slice (some (aD b2 0)) 1 rH] w fun e w'=>∃ (v:Value) (ys:List ah) (o:Nat->Prop) (w1:World),e=.returned (.tuple #[v,.int .i64 0])/\ys.map ah.xs=[[4,10]]/\gL (pM 3) w1.heap.size w1 22 ys o w' v/\Below w.heap.size w w1:=by
 obtain⟨w0,hw0,hb0,hg0⟩:=bu w (jU n).cells 26;have hc1:=Bj co cc pI (jU n) w0 (hts.below hb0) (hq.below hb0) (Qq _) (Qq _);rw[JU] at hc1;have HCD:Hid (∀ x:World,Below w.heap.size w x->_):=fun x hb=>CE co cc pI (jU n) (some (aD b2 0)) rH (rY n) x (hts.below hb) (Qo hb hq.src) (JS.1.below hb) rfl (show 1<=5 by decide)
 simp only[NR,if_true] at HCD;have HB0:=Zh hb0;obtain⟨b,o,e,hc2⟩:=JS.1.2.1.get (i:=0) (show 0<1 by decide)
 cases e
 obtain⟨b,o,e,hc3⟩:=hq.src.get (i:=0) (show 0<1 by decide)
 cases e
 have HAN:Hid (∀ x:World,Below w.heap.size w x->Calls Tryz.prog 35 #[.agg (jU n).cells,.slice (some (aD b2 0)) 1 rH] x fun e w'=>∃ v,e=.returned v/\qg (pM 3) Tryz.prog v [[4,10]] w'/\Below x.heap.size x w'):=fun x hb=>acg (n+1) b2 rH (jU n).sums ((rY n).getD 0 rz) x (cB hb (hc3 0 (show 0<1 by decide))) (cB hb (hc2 0 (show 0<1 by decide))) ((JS.2 0 (show 0<1 by decide)).below hb) (Qo hb hq.sums) (NT _ _)
 have YM:Hid _:=hg0;clear hts hq JS hc2 hc3 hb0 hg0;unfold jU ae.cells ah.val at *;simp only[Q5,Zk,Nat.reduceAdd] at *;have g0:=YM.out;obtain⟨c0,c1,c2,c3,c4,c5,c6⟩:_/\_/\_/\_/\_/\_/\_:=⟨GB.at g0 0,GB.at g0 1,GB.at g0 2,GB.at g0 3,GB.at g0 4,GB.at g0 5,GB.at g0 6⟩
 clear g0 YM;go_enter Tryz.func18,Tryz.ntmps18;go_wp2_with fail;refine hc1.mono ?_;rintro e w1 ⟨rfl,hb1⟩;have agx:=HB0.out.trans (hb1.mono HB0.out.size);have d0:=cB hb1 c0;have d1:=cB hb1 c1;have d2:=cB hb1 c2;have d3:=cB hb1 c3;have d4:=cB hb1 c4;have d5:=cB hb1 c5;have d6:=cB hb1 c6;have hcd:=HCD.out w1 agx;clear hc1 c0 c1 c2 c3 c4 c5 c6 hw0;go_wp2_with fail;refine Z7 hcd ?_;rintro e w2 ⟨rfl,hb2⟩;have hbw2:=agx.trans (hb2.mono agx.size);have e0:=cB hb2 d0;have e1:=cB hb2 d1;have e2:=cB hb2 d2;have e3:=cB hb2 d3;have e4:=cB hb2 d4;have e5:=cB hb2 d5;have e6:=cB hb2 d6;have han:=HAN.out w2 hbw2;clear hcd d0 d1 d2 d3 d4 d5 d6;go_wp2_with fail;refine Z7 han ?_;rintro e w3 ⟨v,rfl,hsv,hb3⟩;have aqB:=hbw2.trans (hb3.mono hbw2.size);obtain⟨g3,lb3,rfl,eg3,hs3⟩:=hsv;have hga:=K3 (pM 3) (fun _=>rfl) g3 lb3 [[4,10]] w3 w3 (Qp _ _) (by decide) hs3 eg3;clear han e0 e1 e2 e3 e4 e5 e6 hs3 eg3;go_wp2_with fail;refine hga.mono ?_;rintro e w4 ⟨v4,ys,o4,rfl,hys,hG4⟩;obtain⟨va,vn,vc,rfl⟩:=ZA hG4.own;clear hga;go_wp2;go_ret2;exact⟨_,ys,o4,w3,rfl,hys,hG4,aqB⟩
theorem TJ (w:World):Calls Tryz.prog 5 #[] w fun e w'=>e=.returned (.bool true)/\Below w.heap.size w w':=by
 obtain⟨a1,a2,a3⟩:=Yw w;have hev:=akV (some (aD w.heap.size 0)) (w.heap.size+1+1+1+1+1+1+1+1+1) 1 1 w.heap.size _ a1 a2 a3;have hbV:=lH (iU w.heap.size) w;have HBV:=Zh hbV;clear a1 a2 a3 hbV;go_enter Tryz.func5,Tryz.ntmps5;go_wp2_with fail;refine hev.mono ?_;rintro e w2 ⟨v,ys,o,w1,rfl,hys,hG,hb1⟩;clear hev;have hy1:ys.length=1:=by
  have:=congrArg List.length hys
  simpa using this
 obtain⟨y,rfl⟩:=List.length_eq_one_iff.1 hy1;clear hy1;have hyx:y.xs=[4,10]:=by
  have:[y.xs]=[[4,10]]:=hys;injection this
 rcases ZT hG.own with⟨-,h⟩ | ⟨g,cap,rfl,-,-,hc⟩
 ·simp at h
 have hyA:=(hG.at' y (by simp)).1.1;obtain⟨yad,aqC,yxs⟩:=y;simp only at hyx;subst hyx;obtain⟨b,off,rfl,hcs⟩:=au.get hyA (i:=0) (by simp);have q0:=hcs 0 (by simp);have q1:=hcs 1 (by simp);have hc':w2.cell? (aD g 0)=some (.slice (some (aD b off)) 2 aqC):=hc 0 _ rfl;have q0':w2.cell? (aD b off)=some (.int .i64 4):=q0;have q1':w2.cell? (aD b (off+1))=some (.int .i64 10):=q1;have hbf:=HBV.out.trans ((hb1.trans (hG.below.mono hb1.size)).mono HBV.out.size);have HBF:=Zh hbf;clear hbf hc q0 q1 hcs hyA hG hb1 hys;simp only[Q5,Zk,Nat.reduceAdd];go_wp2;go_ret;exact⟨rfl,HBF.out⟩
