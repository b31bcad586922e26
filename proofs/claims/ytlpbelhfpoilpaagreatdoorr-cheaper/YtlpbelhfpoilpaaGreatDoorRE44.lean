import Derived.Test.YtlpbelhfpoilpaaGreatDoorRE07
import Derived.Test.YtlpbelhfpoilpaaGreatDoorRE43
set_option linter.all false
set_option maxRecDepth 100000
set_option maxHeartbeats 16000000
namespace Go.Proofs.Zz
open Go.RowKit Go.Shelf
section
theorem IB{w:World}{base:Nat}{e:TypeId}{v:Value}{n:Nat}{xs:List Int}(h:w.ownsRow base e 1 v n (xs.map (Value.int .i64)))(hl:xs.length<=1152921504606846976) :
  ∃ iv:ah,v=iv.val/\iv.xs=xs/\(rF e).At iv w/\∀ b,bK.blk iv=some b->base<=b:=by
 obtain⟨iv,hv,hx,hA,hb⟩:=kW h hl;have hn:xs.length=n:=by have:=h.1; simpa using this
 refine⟨iv,hv,hx,⟨hA,?_⟩,hb⟩;rw[<- hv,hx,hn];refine⟨h.1,?_⟩;rcases h.2 with h' | ⟨g,cap,cur,h1,h2,h3⟩
 ·exact .inl h'
 ·exact .inr ⟨g,cap,cur,h1,Q8 _,h3⟩
attribute [local go_sem] Oper.semAt_some
theorem Rt(bi bk bs gi:Nat)(AA:Array Value)(sc:ah)(rows:List (List Int))(w0:World)(hci:w0.cell? (aD bi 0)=some (.func (.func gi) #[] AA))(hck:w0.cell? (aD bk 0)=some (.slice none 0 0))(hcs:w0.cell? (aD bs 0)=some sc.val)
  (hseq:Seq bK Tryz.prog gi AA rows w0) (egi:∀ args w,(callFunc gi args).run Tryz.prog w=.ok (.enter gi args) w) (hsc:sc.At w0) (hsl:sc.xs.length<=4) (hlen:rows.length<=1000) (Rs:∀ r∈rows,bN sc.xs r.length=true) (hsm:∀ r∈rows,∀ v∈r,yM v) (hbig:∀ n,∀ s∈nC sc.xs (rows.take n),yM s) :
  Seq (rF 3) Tryz.prog 279 #[.pointer (some (aD bi 0)),.pointer (some (aD bk 0)),.pointer (some (aD bs 0))] [(rows.length:Int)::nC sc.xs rows] w0:=by
 intro l J W o hW ho hJ hY h0;have c1:=cB hW hci;have c2:=cB hW hck;have c3:=cB hW hcs;have hgg:=Mv gi AA sc rows w0 W hW hseq egi (Qv hW hsc) hsl hlen Rs hsm hbig;have Gy:Hid ((nC sc.xs rows).length=sc.xs.length):=Dx _ _ _ (by simp);have HY:=Zh hY;have HO:=Zh ho;have HJ:=Zh hJ;have Fu:=Zh hsl;have HLEN:=Zh hlen;clear hY ho hW hJ hseq egi hlen Rs hsm hsc hci hck hcs hsl hbig;obtain⟨rH,jq,ry⟩:=sc;unfold ah.val at *;simp only at *;generalize nC ry rows=SS at *;generalize rows.length=RN at *;refine(Zu (n:=0)).1 (callsIn_of_wp Tryz.func279 rfl trivial ?_ rfl);simp only[Tryz.ntmps279,Zy,Zg,ZA,Nat.reduceAdd,Nat.reduceSub,ZB,ZC,ZE,ZF,ZG,ZH]
 gi_wp2
 refine⟨trivial,rfl,Zu.2 (hgg.mono ?_)⟩;rintro e Wg ⟨gr,cap,gb,sb,rfl,hr1,hr2,hr3,hp,hg,hs,hbg⟩;clear hgg;have h0':=HJ.o _ _ _ _ h0 (Zo (s:=fun b=>o b∨b<W.heap.size) hbg (fun b hb _=>hb));have HLS:Hid (W.heap.size<=gr/\W.heap.size<=gb/\W.heap.size<=sb):=⟨hr1,hr2,hr3⟩
 have MZ:=Zh hbg;have HP:=Zh hp;have HGG:=Zh hg;have HS:=Zh hs;clear hbg hp hg hs hr1 hr2 hr3 c1 c2 c3 h0
 gi_wp2
 gi_loopw [12] (fun i wr=>∃ k:Nat,k<=1/\i=.int .i64 k/\∃ ys o1,Hid (ys.map ah.xs=[(RN:Int)::SS].take k)/\J ys o1 wr/\Hid (Kept (fun b=>¬ o b) Wg wr)/\Hid (∀ b,o1 b->o b∨(Wg.heap.size<=b/\b<wr.heap.size)))
  (fun i _=>1-(intOf i).toNat)
 case atStart=>exact⟨0,Q8 _,rfl,[],o,rfl,h0',Zn _ _,fun b h=>.inl h⟩
 case round=>
  obtain⟨k,hk,rfl,ys,o1,hys,hJs,tY,ho1⟩:=hrel;by_cases hlt:k<1
  ·obtain rfl:k=0:=by omega
   have hno':∀ b,W.heap.size<=b->¬ o b:=fun b hb h=>by have:=(HO.o b h).2; omega
   have hgw:=(tY.o.block _ (QV.1 HGG.o).1 (hno' _ HLS.o.2.1)).trans HGG.o;have hsw:=(tY.o.block _ (QV.1 HS.o).1 (hno' _ HLS.o.2.2)).trans HS.o;have hci:=ZI HP.o tY.o (hno' _ HLS.o.1);have hrow:=IA gb sb ⟨none,0,[]⟩ RN SS wr (by rw[Gy.o]; exact hgw) hsw ⟨by simp,fun i hi=>by simp at hi⟩ (fun _=>rfl) (by simp) (by rw[Gy.o]; exact Fu.o) (by have:=HLEN.o; omega);have HRL:Hid (((RN:Int)::SS).length<=1000):=by have:=Gy.o; have:=Fu.o; show _<=_; simp; omega
   clear hgw hsw hno'
   gi_wp2
   refine⟨trivial,rfl,Zu.2 (hrow.mono ?_)⟩;rintro e w3 ⟨v3,rfl,hown,hb3⟩;clear hrow;obtain⟨iv,rfl,pJ,kD,EA⟩:=IB hown (by have:=HRL.o; exact Zl this (by decide));have hs3:=hb3.size;have hk3:∀ s,Kept s wr w3:=fun s=>Zo hb3 (fun b hb _=>hb)
   have hsw:=tY.o.size;have hsg:=MZ.o.size;have hj3:=HJ.o _ _ _ _ hJs (hk3 _);have hno:∀ b,o1 b->b<wr.heap.size:=fun b hb=>by
    rcases ho1.o b hb with h | h
    ·have:=(HO.o b h).2; omega
    ·exact h.2
   have hyz:ys=[]:=by have:=hys.o; simpa using this
   subst hyz;have hp3:([]++[iv]).map (rF 3).key <+: [(RN:Int)::SS]:=by
    show [iv.xs] <+: _
    rw[pJ];exact List.prefix_refl _
   obtain⟨fn,tmps,assign,body,hy,hRR⟩:=HY.o [] iv o1 w3 hj3 hp3 kD (fun b hb=>⟨fun h=>by have:=hno b h; have:=EA b hb; omega,.inr (by have:=EA b hb; omega)⟩) (by omega);have HIV:=Zh pJ;have HIB:=Zh EA;have RZ:Hid (∀ b,bK.blk iv=some b->b<w3.heap.size):=fun b hb=>bK.inn kD.1 hb
   have rU:=Zh hk3;clear hown hb3 hk3 hp3 kD pJ EA hj3 hno hci;obtain⟨mU,fH,jC⟩:=iv;have hy':(Instr.yield l #[.slice mU jC.length fH]).run Tryz.prog w3=.ok (.round l fn tmps assign body) w3:=hy;unfold ah.val;simp only;clear hy
   gi_wp2
   refine⟨rfl,hRR.mono ?_⟩;rintro e W4 ⟨rfl,o2,hJ4,hk4,hg4⟩;have HJ4:=Zh hJ4;have PM:=Zh hk4;have HG4:=Zh hg4;clear hJ4 hk4 hg4 hRR hy'
   gi_wp2
   go_roundw
   case rel=>
    have hs4:=PM.o.size;refine⟨1,by omega,by simp,[⟨mU,fH,jC⟩],o2,?_,HJ4.o,?_,?_⟩
    ·show [jC]=_
     have h:=HIV.o;rw[h];rfl
    ·refine(tY.o.trans (rU.o _)).trans' PM.o (fun b hb h h'=>?_);rcases ho1.o b h' with h' | h'
     ·exact h h'
     ·omega
    ·intro b hb;rcases HG4.o b hb with h | h | ⟨h,_⟩
     ·rcases ho1.o b h with h | h
      ·exact .inl h
      ·exact .inr ⟨h.1,by omega⟩
     ·exact .inr ⟨by omega,h.2⟩
     ·have h1:=HIB.o b h;have h2:=RZ.o b h;exact .inr ⟨by omega,by omega⟩
   case measure=>simp[intOf]
  ·obtain rfl:k=1:=by omega
   gi_wp2
   go_end0;refine⟨⟨_,rfl⟩,ys,o1,hys.o,hJs,(Zo MZ.o (fun b hb _=>hb)).trans' tY.o (fun b _ h=>h),fun b hb=>?_⟩;rcases ho1.o b hb with h | h
   ·exact .inl h
   ·exact .inr ⟨by have:=MZ.o.size; omega,h.2⟩
end
theorem Mw(v:dF)(n:Int)(w:World)(hr:v.At w) :
  Ce 213 #[v.val,.int .i64 n] w (.bool (Nz v.rs n)):=by
 obtain⟨ad,cap,rs⟩:=v;unfold dF.val;simp only;have hl:=hr.1;simp only at hl;have HR:Hid _:=hr;clear hr;go_enter Tryz.func213,Tryz.ntmps213;go_wp2;go_loopw [11] (fun i wr=>∃ k:Nat,k<=rs.length/\i=.int .i64 k/\Hid (Nz (rs.take k) n=true)/\w=wr) (fun i _=>rs.length-(intOf i).toNat)
 case atStart=>exact⟨0,Q8 _,rfl,rfl,rfl⟩
 case round=>
  obtain⟨k,hk,rfl,HP,rfl⟩:=hrel;by_cases hlt:k<rs.length
  ·obtain⟨b,off,rfl,hcs⟩:=HR.o.2.1.get hlt;have hck:=hcs k hlt;have hat:=HR.o.2.2 k hlt;have HBD:Hid (Gj (rs.getD k iz).xs n=false->false=Nz rs n):=fun h=>(JF (p:=fun r:ah=>Gj r.xs n) hlt h).symm
   have HGD:Hid (Gj (rs.getD k iz).xs n=true->Nz (rs.take (k+1)) n=true):=fun h=>Fb (p:=fun r:ah=>Gj r.xs n) hlt HP.o h
   generalize rs.getD k iz=x at *;obtain⟨Bc,mW,xs⟩:=x;simp only at *;have Tk:w.cell? (aD b (off+k))=some (.slice Bc xs.length mW):=hck;have hxl:=hat.1;simp only at hxl;have HX:Hid _:=hat;clear hck hcs hat;by_cases hn:(xs.length:Int)=n
   ·have hne:((xs.length:Int) != n)=false:=by simpa using hn
    go_wp2;go_loopw [21] (fun i wr=>∃ m:Nat,m<=xs.length/\i=.int .i64 m/\Hid ((xs.take m).all Az=true)/\w=wr) (fun i _=>xs.length-(intOf i).toNat)
    case atStart=>exact⟨0,Q8 _,rfl,rfl,rfl⟩
    case round=>
     obtain⟨m,hm,rfl,HV,rfl⟩:=hrel;by_cases Ka:m<xs.length
     ·obtain⟨xb,afY,rfl,MK⟩:=HX.o.get Ka;have hxm:=MK m Ka;have HVB:Hid (Az (xs.getD m 0)=false->xs.all Az=false):=fun h=>JF Ka h
      have HVG:Hid (Az (xs.getD m 0)=true->(xs.take (m+1)).all Az=true):=fun h=>Fb Ka HV.o h
      generalize xs.getD m 0=y at *;clear MK;by_cases y0:y=1073741824
      ·have f0:(y != 1073741824)=false:=by simpa using y0
       have HY:Hid (Az y=true):=show _=_ by simp[Az,y0]
       clear y0;go_wp2;go_roundw
       case rel=>exact⟨m+1,by omega,by go_num,HVG.o HY.o,trivial⟩
       case measure=>simp[intOf]; omega
      ·have f0:(y != 1073741824)=true:=by simpa using y0
       by_cases y1:-1000<=y
       ·by_cases y2:y<=1000
        ·have HY:Hid (Az y=true):=show _=_ by simp[Az,y1,y2]
         clear y0;go_wp2;go_roundw
         case rel=>exact⟨m+1,by omega,by go_num,HVG.o HY.o,trivial⟩
         case measure=>simp[intOf]; omega
        ·have HY:=Zh (HBD.o (by unfold Gj; rw[HVB.o (by simp[Az,y0,y2])]; simp));clear y0;go_wp2;go_ret;exact⟨Qg HY.o,rfl⟩
       ·have HY:=Zh (HBD.o (by unfold Gj; rw[HVB.o (by simp[Az,y0,y1])]; simp));clear y0;go_wp2;go_ret;exact⟨Qg HY.o,rfl⟩
     ·have hmm:m=xs.length:=by omega
      subst hmm;rw[QA]at HV;have HG2:=Zh (HGD.o (by unfold Gj; rw[HV.o]; simp[hn]));go_wp2;go_roundw
      case rel=>exact⟨k+1,by omega,by go_num,HG2.o,trivial⟩
      case measure=>simp[intOf]; omega
   ·have hne:((xs.length:Int) != n)=true:=by simpa using hn
    have HY:=Zh (HBD.o (by unfold Gj; simp[hn]));go_wp2;go_ret;exact⟨Qg HY.o,rfl⟩
  ·have hkk:k=rs.length:=by omega
   subst hkk;rw[QA]at HP;have HPP:=Zh HP.o.symm;clear HP;go_wp2;go_ret;exact⟨Qg HPP.o,rfl⟩
theorem Dy(co:Option Addr)(cc:Nat)(ts:List af)(d:Option Addr)(tT:Nat)(db:List dF)(w:World)(hts:aZ w co ts)(Mx:Ny w d db) :
  Ce 143 #[.slice co ts.length cc,.slice d db.length tT] w (.bool (decide (db.length=ts.length)&&MJ ts db)):=by
 have hl1:=hts.1;have HT:Hid _:=hts;have HD:Hid _:=Mx;clear hts Mx;by_cases hn:db.length=ts.length
 ·have hne:((db.length:Int) != (ts.length:Int))=false:=by rw[hn]; simp
  have hR:(decide (db.length=ts.length)&&MJ ts db)=MJ ts db:=by simp[hn]
  rw[hR];have HN:=Zh hn;clear hR hn;go_enter Tryz.func143,Tryz.ntmps143;go_wp2;go_loopw [14] (fun i wr=>∃ k:Nat,k<=db.length/\i=.int .i64 k/\Hid ((List.range k).all (fun i=>Bv (db.getD i rz) (ts.getD i tz))=true)/\w=wr) (fun i _=>db.length-(intOf i).toNat)
  case atStart=>exact⟨0,Q8 _,rfl,rfl,rfl⟩
  case round=>
   obtain⟨k,hk,rfl,HP,rfl⟩:=hrel;by_cases hlt:k<db.length
   ·obtain⟨b,off,rfl,hcs⟩:=HD.o.2.1.get hlt;have hck:=hcs k hlt;have hat:=HD.o.2.2 k hlt;have hlt2:k<ts.length:=by have:=HN.o; omega
    obtain⟨tb,ahl,rfl,t0,-,-,-,-,-⟩:=HT.o.2 k hlt2;have HBD:Hid (Bv (db.getD k rz) (ts.getD k tz)=false->false=MJ ts db):=fun h=>(DU (p:=fun i=>Bv (db.getD i rz) (ts.getD i tz)) hlt h).symm
    have HGD:Hid (Bv (db.getD k rz) (ts.getD k tz)=true->(List.range (k+1)).all (fun i=>Bv (db.getD i rz) (ts.getD i tz))=true):=fun h=>Bz (p:=fun i=>Bv (db.getD i rz) (ts.getD i tz)) HP.o h
    generalize db.getD k rz=x at *;generalize (ts.getD k tz)=tt at *;have hcon:=Mw x tt.aO w hat;obtain⟨Bc,mW,xs⟩:=x;obtain⟨aO,axJ,k0,k1,k2,k3⟩:=tt;unfold dF.val at *;simp only at *;have hxl:=hat.1;simp only at hxl;clear hcs hat;by_cases h50:50<xs.length
    ·have HY:=Zh (HBD.o (by unfold Bv; simp; omega));go_wp2;go_ret;exact⟨Qg HY.o,rfl⟩
    ·by_cases hf:Nz xs aO=true
     ·have HY:=Zh (HGD.o (by unfold Bv; simp[hf]; omega));rw[hf]at hcon;clear hf;go_wp2_with fail;refine hcon.mono ?_;rintro e w2 ⟨rfl,rfl⟩;go_wp2;go_roundw
      case rel=>exact⟨k+1,by omega,by go_num,HY.o,trivial⟩
      case measure=>simp[intOf]; omega
     ·have hf':Nz xs aO=false:=by simpa using hf
      have HY:=Zh (HBD.o (by unfold Bv; simp[hf']));rw[hf']at hcon;clear hf hf';go_wp2_with fail;refine hcon.mono ?_;rintro e w2 ⟨rfl,rfl⟩;go_wp2;go_ret;exact⟨Qg HY.o,rfl⟩
   ·have hkk:k=db.length:=by omega
    subst hkk;have HPP:Hid (true=MJ ts db):=HP.o.symm;clear HP;go_wp2;go_ret;exact⟨Qg HPP.o,rfl⟩
 ·have hne:((db.length:Int) != (ts.length:Int))=true:=by simp; omega
  have hR:(decide (db.length=ts.length)&&MJ ts db)=false:=by simp[hn]
  rw[hR];clear hR;go_enter Tryz.func143,Tryz.ntmps143;go_wp2;go_ret;exact⟨rfl,rfl⟩
theorem VU(s:ah)(d:Option Addr)(tT:Nat)(db:List dF)(ts:List af)(w:World)(hs:s.At w)(Mx:Ny w d db)(ha:bN s.xs db.length=true)(hl:s.xs.length<=5)(hB:MJ ts db=true) :
  Ce 144 #[s.val,.slice d db.length tT] w (.int .i64 (nK s.xs db)):=by
 obtain⟨rH,jq,src⟩:=s;unfold ah.val;simp only at *;have HS:Hid _:=hs;have HD:Hid _:=Mx;have HA:=Zh ha;have HB:=Zh hB;clear hs Mx ha hB;go_enter Tryz.func144,Tryz.ntmps144;go_wp2;go_loopw [5,10] (fun p i wr=>∃ k:Nat,k<=src.length/\i=.int .i64 k/\p=.int .i64 (nK (src.take k) db)/\w=wr) (fun _ i _=>src.length-(intOf i).toNat)
 case atStart=>exact⟨0,Q8 _,rfl,rfl,rfl⟩
 case round=>
  obtain⟨k,hk,rfl,rfl,rfl⟩:=hrel;by_cases hlt:k<src.length
  ·have hr:=mV HA.o hlt;obtain⟨b1,o1,rfl,hc1⟩:=HS.o.get hlt;have hck:=hc1 k hlt;have hj:src[k].toNat<db.length:=by omega
   obtain⟨b2,o2,rfl,hc2⟩:=HD.o.2.1.get hj;have hcl:=hc2 _ hj;have hp1:=uP HB.o hl k;have hp2:=uP HB.o hl (k+1);have h50:=RH HB.o src[k].toNat;rw[BA hlt]at hp2;have HPS:=Zh (BA (db:=db) hlt);have e1:src.getD k 0=src[k]:=by simp[List.getD,hlt]
   rw[e1]at hck;generalize db.getD src[k].toNat rz=x at *;generalize nK (src.take k) db=p at *;generalize WR:src[k]=ck at *;clear e1 hc1 hc2 WR;obtain⟨cn,rfl⟩:∃ cn:Nat,ck=(cn:Int):=⟨ck.toNat,by omega⟩
   simp only[Zj]at hj hcl;obtain⟨Bc,mW,xs⟩:=x;unfold dF.val at *;simp only at *;have hmx:((max 1 xs.length:Nat):Int)=if (1:Int)<(xs.length:Int) then (xs.length:Int) else 1:=by split <;> omega
   have hw:wrap64 ((p:Int)*(if (1:Int)<(xs.length:Int) then (xs.length:Int) else 1))=((p*max 1 xs.length:Nat):Int):=by
    rw[<- hmx,<- Int.natCast_mul];unfold wrap64; omega
   have HWr:=Zh hw;have HWm:Hid (wrap64 ((p:Int)*max 1 (xs.length:Int))=((p*max 1 xs.length:Nat):Int)):=by
    show _=_
    rw[show max 1 (xs.length:Int)=((max 1 xs.length:Nat):Int) by omega,<- Int.natCast_mul];unfold wrap64; omega
   clear hw hmx;go_wp2;go_roundw
   case rel=>exact⟨k+1,by omega,by go_num,by rw[HPS.o]; first | exact congrArg (Value.int .i64) HWr.o | exact congrArg (Value.int .i64) HWm.o,trivial⟩
   case measure=>simp[intOf]; omega
  ·have hkk:k=src.length:=by omega
   subst hkk;rw[QA];go_wp2;go_ret;exact⟨rfl,rfl⟩
theorem EX(co:Option Addr)(cc:Nat)(ts:List af)(q:ae)(d:Option Addr)(tT:Nat)(db:List dF)(w:World)(hts:aZ w co ts)(hq:q.src.At w)(Mx:Ny w d db)(ha:bN q.src.xs ts.length=true)(hl:q.src.xs.length<=5) :
  Cb 89 #[.slice co ts.length cc,.agg q.cells,.slice d db.length tT] w (.int .i64 (if RG ts q.src.xs db then 0 else 4)):=by
 have hb0:=dn w (.cells q.cells 26);have hc1:=Dy co cc ts d tT db _ (hts.below hb0) (Mx.below hb0);have hbb:=hb0;have hD:RG ts q.src.xs db=((decide (db.length=ts.length)&&MJ ts db)&&decide (nK q.src.xs db<=20000)):=rfl;by_cases h1:(decide (db.length=ts.length)&&MJ ts db)=true
 ·have h1':=h1;simp only[Qt,QJ]at h1';have hc2:=VU q.src d tT db ts _ (Qv hb0 hq) (Mx.below hb0) (by rw[h1'.1]; exact ha) hl h1'.2;rw[h1]at hc1 hD;rw[hD];have hs:((nK q.src.xs db:Nat):Int) > 20000∨¬ ((nK q.src.xs db:Nat):Int) > 20000:=by omega
  have HB:=Zh hbb;clear hD h1 h1' hb0 hbb hts Mx ha hl hq;obtain⟨⟨rH,jq,src⟩,bY,aI,wh,group,keys,sums,aV,ord⟩:=q;unfold ae.cells ah.val at *;simp only at *;generalize nK src db=p at *;have hx0:(w.alloc (.cells #[.slice rH src.length jq,.slice bY wh.length aI,.bool group,.slice keys.ad keys.xs.length keys.cap,.slice sums.ad sums.xs.length sums.cap,.slice aV.ad aV.xs.length aV.cap,.slice ord.ad ord.xs.length ord.cap] 26)).cell? (aD w.heap.size 0)=some (.slice rH src.length jq):=by simp
  rcases hs with hs | hs
  ·have hR:(if (true&&decide (p<=20000))=true then (0:Int) else 4)=4:=by rw[Qz]; simp; omega
   rw[hR];clear hR;go_enter Tryz.func89,Tryz.ntmps89;go_wp2_with fail;refine hc1.mono ?_;rintro e w2 ⟨rfl,rfl⟩;go_wp2_with fail;refine hc2.mono ?_;rintro e w2 ⟨rfl,rfl⟩;go_wp2;go_ret;exact⟨rfl,HB.o⟩
  ·have hR:(if (true&&decide (p<=20000))=true then (0:Int) else 4)=0:=by rw[Qy]; simp; omega
   rw[hR];clear hR;go_enter Tryz.func89,Tryz.ntmps89;go_wp2_with fail;refine hc1.mono ?_;rintro e w2 ⟨rfl,rfl⟩;go_wp2_with fail;refine hc2.mono ?_;rintro e w2 ⟨rfl,rfl⟩;go_wp2;go_ret;exact⟨rfl,HB.o⟩
 ·have h1':(decide (db.length=ts.length)&&MJ ts db)=false:=by simpa using h1
  rw[h1']at hc1 hD;have hR:(if RG ts q.src.xs db then (0:Int) else 4)=4:=by rw[hD]; rfl
  rw[hR];have HB:=Zh hbb;clear hD h1 h1' hb0 hbb hts Mx ha hl hq hR;obtain⟨⟨rH,jq,src⟩,bY,aI,wh,group,keys,sums,aV,ord⟩:=q;unfold ae.cells ah.val at *;simp only at *;go_enter Tryz.func89,Tryz.ntmps89;go_wp2_with fail;refine hc1.mono ?_;rintro e w2 ⟨rfl,rfl⟩;go_wp2;go_ret;exact⟨rfl,HB.o⟩
theorem EY(g:Nat)(lb:Array Value)(ao:Option Addr)(cap:Nat)(w:World) :
  Ce 155 #[.func (.func g) #[] lb,.slice ao 0 cap] w (.func (.func g) #[] lb):=by
 go_enter Tryz.func155,Tryz.ntmps155;go_wp2;go_ret;exact⟨rfl,rfl⟩
def lG(n:Nat):ae:=(⟨⟨some (aD (n+1) 0),1,[0]⟩,none,0,[],true,⟨none,0,[]⟩,⟨some (aD (n+1+1) 0),1,[0]⟩,⟨none,0,[]⟩,⟨none,0,[]⟩⟩:ae)
def uG(n:Nat):List dF:=[(⟨some (aD (n+1+1+1+1+1+1+1+1) 0),4,[⟨some (aD (n+1+1+1+1) 0),1,[4]⟩,⟨some (aD (n+1+1+1+1+1) 0),1,[3]⟩,⟨some (aD (n+1+1+1+1+1+1) 0),1,[3]⟩,⟨some (aD (n+1+1+1+1+1+1+1) 0),1,[1073741824]⟩]⟩:dF)]
def rD:List af:=[⟨1,10,10,0,0,0⟩]
theorem MC(n:Nat):(lG n).check rD=0:=rfl
theorem Ru(n:Nat):RG rD (lG n).src.xs (uG n)=true:=rfl
theorem holds0(ao:Option Addr)(n cap:Nat)(w:World):Ce 154 #[.slice none 0 0,.slice ao n cap] w (.bool true):=by
 go_enter Tryz.func154,Tryz.ntmps154;go_wp2;go_loopw [9] (fun i wr=>i=.int .i64 0/\w=wr) (fun _ _=>0)
 case atStart=>exact⟨rfl,rfl⟩
 case round=>
  obtain⟨rfl,rfl⟩:=hrel;go_wp2;go_ret;exact⟨rfl,rfl⟩
theorem aol(bq:Nat)(ao:Option Addr)(n cap:Nat)(w:World)(hc:w.cell? (aD bq 1)=some (.slice none 0 0)):Cb 153 #[.slice ao n cap,.pointer (some (aD bq 0))] w (.bool true):=by
 have hcon:=holds0 ao n cap w;go_enter Tryz.func153,Tryz.ntmps153;go_wp2_with fail;refine hcon.mono ?_;rintro e w2 ⟨rfl,rfl⟩;go_wp2;go_ret;exact⟨rfl,Qw _ _⟩
theorem aom(b1 b2 tT:Nat)(rv:dF)(w:World)(h1:w.cell? (aD b1 0)=some (.int .i64 0))(h2:w.cell? (aD b2 0)=some rv.val)(hr:iX w rv.ad rv.rs) :
  Calls Tryz.prog 152 #[.slice (some (aD b1 0)) 1 1,.slice (some (aD b2 0)) 1 tT] w fun e w'=>∃ v,e=.returned v/\rO bK Tryz.prog v (rv.rs.map (·.xs)) w'/\Bw w w':=by
 have hcon:=Uc rv w hr;clear hr;obtain⟨Bc,mW,xs⟩:=rv;unfold dF.val at *;simp only at *;go_enter Tryz.func152,Tryz.ntmps152;go_wp2_with fail;refine hcon.mono ?_;rintro e w2 ⟨v,rfl,hsv,hb2⟩;have HSV:Hid _:=hsv;obtain⟨g0,lb0,rfl,_,_⟩:=hsv;clear hcon;go_wp2
 all_goals
  go_loopw [5,18] (fun v i wr=>i=.int .i64 0/\v=.func (.func g0) #[] lb0/\w2=wr) (fun _ _ _=>0)
  case atStart=>exact⟨rfl,rfl,rfl⟩
  case round=>
   obtain⟨rfl,rfl,rfl⟩:=hrel;go_wp2;go_ret;exact⟨_,rfl,HSV.o,hb2⟩
structure SI(u:ah)(rows:List (List Int)):Prop where
 few:u.xs.length<=4
 len:rows.length<=1000
 fit:∀ r∈rows,bN u.xs r.length=true
 vals:∀ r∈rows,∀ v∈r,yM v
 sums:∀ n,∀ s∈nC u.xs (rows.take n),yM s
theorem ME(vi:Value)(s:ah)(rows:List (List Int))(w:World)(hi:rO bK Tryz.prog vi rows w)(hs:s.At w)(h:SI s rows) :
  Calls Tryz.prog 216 #[vi,.slice none 0 0,s.val] w fun e w'=>∃ v,e=.returned v/\rO (rF 3) Tryz.prog v [(rows.length:Int)::nC s.xs rows] w'/\Bw w w':=by
 obtain⟨gi,AA,rfl,egi,hsi⟩:=hi;have hh:=oU [.cells #[.func (.func gi) #[] AA] 152,.cells #[.slice none 0 0] 23,.cells #[s.val] 23] w;have HB:=Zh (nA [.cells #[.func (.func gi) #[] AA] 152,.cells #[.slice none 0 0] 23,.cells #[s.val] 23] w);have HS:Hid (rO (rF 3) Tryz.prog (.func (.func 279) #[] #[.pointer (some (aD w.heap.size 0)),.pointer (some (aD (w.heap.size+1) 0)),.pointer (some (aD (w.heap.size+1+1) 0))]) _ _):=
  ⟨_,_,rfl,enters_of Tryz.func279 (by kernel_rfl) rfl,Rt w.heap.size (w.heap.size+1) (w.heap.size+1+1) gi AA s rows _ (Ji (hh 0 (by simp)) rfl) (Ji (hh 1 (by simp)) rfl) (Ji (hh 2 (by simp)) rfl) (Seq.later _ hsi HB.o) egi (Qv HB.o hs) h.few h.len h.fit h.vals h.sums⟩
 obtain⟨rH,jq,ry⟩:=s;unfold ah.val at *;simp only[Q0,List.foldl_nil]at *;clear hsi hs h hh;go_enter Tryz.func216,Tryz.ntmps216;go_wp2;go_ret;exact⟨_,rfl,HS.o,HB.o⟩
theorem aeL(vi a:Value)(u:ah)(rows:List (List Int))(w:World)(hi:rO bK Tryz.prog vi rows w)(hs:u.At w)(h:SI u rows)(h0:∃ x y z,a=.slice x y z) :
  Calls Tryz.prog 156 #[vi,.agg #[a,.slice none 0 0,.bool true,.slice none 0 0,u.val,.slice none 0 0,.slice none 0 0]] w fun e w'=>∃ v,e=.returned v/\rO (rF 3) Tryz.prog v [(rows.length:Int)::nC u.xs rows] w'/\Bw w w':=by
 obtain⟨x,y,z,rfl⟩:=h0;have hb:=dn w (.cells #[.slice x y z,.slice none 0 0,.bool true,.slice none 0 0,u.val,.slice none 0 0,.slice none 0 0] 26);have hcon:=ME vi u rows _ (hi.later hb) (Qv hb hs) h;obtain⟨gi,AA,rfl,_,_⟩:=id hi;clear hi hs h;have HB:=Zh hb;clear hb;obtain⟨FV,qi,IU⟩:=u;unfold ah.val at *;simp only at *;go_enter Tryz.func156,Tryz.ntmps156;go_wp2_with fail;refine hcon.mono ?_;rintro e w2 ⟨v,rfl,hs2,hb2⟩;have HS:Hid _:=hs2;obtain⟨g2,lb2,rfl,_,_⟩:=id hs2;clear hs2 hcon;go_wp2;go_ret;exact⟨_,rfl,HS.o,HB.o.trans (hb2.mono (by simp))⟩
theorem aeM(b1 b2 tT:Nat)(u:ah)(rv:dF)(w:World)(h1:w.cell? (aD b1 0)=some (.int .i64 0))(h2:w.cell? (aD b2 0)=some rv.val)(hr:iX w rv.ad rv.rs)(hu:u.At w)(h:SI u (rv.rs.map (·.xs))) :
  Calls Tryz.prog 97 #[.agg #[.slice (some (aD b1 0)) 1 1,.slice none 0 0,.bool true,.slice none 0 0,u.val,.slice none 0 0,.slice none 0 0],.slice (some (aD b2 0)) 1 tT] w fun e w'=>∃ v,e=.returned v/\rO (rF 3) Tryz.prog v [((rv.rs.map (·.xs)).length:Int)::nC u.xs (rv.rs.map (·.xs))] w'/\Bw w w':=by
 obtain⟨w1,hw1,hb1,hg1⟩:=aU w #[.slice (some (aD b1 0)) 1 1,.slice none 0 0,.bool true,.slice none 0 0,u.val,.slice none 0 0,.slice none 0 0] 26;have hcm:=aom b1 b2 tT rv w1 (cB hb1 h1) (cB hb1 h2) (hr.below hb1);have HU:Hid _:=hu;have HB:=Zh hb1;have HK:Hid (∀ W (x:ah),Bw w1 W->Calls Tryz.prog 153 (#[x.val] ++ #[.pointer (some (aD w.heap.size 0))]) W fun e W'=>e=.returned (.bool true)/\Bw W W'):=fun W x hW=>aol w.heap.size x.ad x.xs.length x.cap W (cB hW (hg1.at 1))
 have HOU:Hid (∀ vf W,rO bK Tryz.prog vf (rv.rs.map (·.xs)) W->Bw w1 W->Calls Tryz.prog 156 #[vf,.agg #[.slice (some (aD b1 0)) 1 1,.slice none 0 0,.bool true,.slice none 0 0,u.val,.slice none 0 0,.slice none 0 0]] W fun e w'=>∃ v,e=.returned v/\rO (rF 3) Tryz.prog v [((rv.rs.map (·.xs)).length:Int)::nC u.xs (rv.rs.map (·.xs))] w'/\Bw W w'):=fun vf W hv hW=>aeL vf _ u _ W hv (Qv (hb1.trans (hW.mono hb1.size)) hu) h ⟨_,_,_,rfl⟩
 obtain⟨c0,c1,c2,c3,c4,c5,c6⟩:=hg1.k7;clear h1 h2 hr hu h hb1 hg1;generalize [((rv.rs.map (·.xs)).length:Int)::nC u.xs (rv.rs.map (·.xs))]=RR at *;generalize rv.rs.map (·.xs)=rows at *;obtain⟨FV,qi,IU⟩:=u;unfold ah.val at *;simp only at *;go_enter Tryz.func97,Tryz.ntmps97;go_wp2_with fail;refine hcm.mono ?_;rintro e w2 ⟨vc,rfl,hsc,hb2⟩;have hfm:=Kl vc 153 #[.pointer (some (aD w.heap.size 0))] rows (fun _=>true) w2 hsc (enters_of Tryz.func153 (by kernel_rfl) rfl) (fun W x hW hx hm=>HK.o W x (hb2.trans (hW.mono hb2.size)));rw[List.filter_eq_self.2 (fun _ _=>rfl)]at hfm;obtain⟨g2,lb2,rfl,_,_⟩:=id hsc;clear hsc hcm;go_wp2_with fail;refine hfm.mono ?_;rintro e w3 ⟨vf,rfl,hsf,hb3⟩;clear hfm;have lY:=hb2.trans (hb3.mono hb2.size);have d0:=cB lY c0;have d1:=cB lY c1;have d2:=cB lY c2;have d3:=cB lY c3;have d4:=cB lY c4;have d5:=cB lY c5;have d6:=cB lY c6;have hdr:Bw w3 w3.drew:=(Qw _ _).drew;have hou:=HOU.o vf w3.drew (hsf.later hdr) (lY.trans (hdr.mono lY.size));obtain⟨g3,lb3,rfl,_,_⟩:=id hsf;have FB:=Zh ((HB.o.trans (lY.mono HB.o.size)).drew);clear hsf lY hdr hb2 hb3 HOU c0 c1 c2 c3 c4 c5 c6;go_wp2;go_region_with (first | (refine hou.mono ?_; rintro e w4 ⟨v4,rfl,hs4,hb4⟩; have e6:=cB hb4 d6; obtain⟨g4,lb4,rfl,_,_⟩:=id hs4) | (refine(EY _ _ _ _ _).mono ?_; rintro e w5 ⟨rfl,rfl⟩))
 all_goals
  go_wp2;go_ret;exact⟨_,rfl,hs4,FB.o.trans (hb4.mono FB.o.size)⟩
theorem uH{W:World}{b:Nat}{x:Int}{t:TypeId}(h:W.heap[b]? = some (.cells #[.int .i64 x] t))(hl:b<W.heap.size):bK.At ⟨some (aD b 0),1,[x]⟩ W:=by
 refine⟨⟨by simp,fun i hi=>⟨b,0,rfl,?_⟩⟩,fun a ha=>by cases ha; exact hl,fun e=>by cases e⟩
 match i,hi with
 | 0,_ => exact Ji h rfl
def jZ(n:Nat):List Obj:=[(.cells #[.int .i64 1,.int .i64 10,.int .i64 10,.int .i64 0,.int .i64 0,.int .i64 0] 80),(.cells #[.int .i64 0] 3),(.cells #[.int .i64 0] 3),(.cells #[.slice (some (aD (n+1) 0)) 1 1,.slice none 0 0,.bool true,.slice none 0 0,.slice (some (aD (n+1+1) 0)) 1 1,.slice none 0 0,.slice none 0 0] 26),(.cells #[.int .i64 4] 3),(.cells #[.int .i64 3] 3),(.cells #[.int .i64 3] 3),(.cells #[.int .i64 1073741824] 3),(.cells #[.slice (some (aD (n+1+1+1+1) 0)) 1 1,.slice (some (aD (n+1+1+1+1+1) 0)) 1 1,.slice (some (aD (n+1+1+1+1+1+1) 0)) 1 1,.slice (some (aD (n+1+1+1+1+1+1+1) 0)) 1 1] 23),(.cells #[.slice (some (aD (n+1+1+1+1+1+1+1+1) 0)) 4 4] 47)]
theorem abB(w:World):aZ ((jZ w.heap.size).foldl World.alloc w) (some (aD w.heap.size 0)) rD/\(lG w.heap.size).At ((jZ w.heap.size).foldl World.alloc w)/\Kk ((jZ w.heap.size).foldl World.alloc w) (some (aD (w.heap.size+1+1+1+1+1+1+1+1+1) 0)) (uG w.heap.size):=by
 have hh:=oU (jZ w.heap.size) w;have hb:=(nA (jZ w.heap.size) w).size;have h0:=hh 0 (by simp[jZ]);have h1:=hh 1 (by simp[jZ]);have h2:=hh 2 (by simp[jZ]);have h4:=hh 4 (by simp[jZ]);have h5:=hh 5 (by simp[jZ]);have h6:=hh 6 (by simp[jZ]);have h7:=hh 7 (by simp[jZ]);have h8:=hh 8 (by simp[jZ]);have h9:=hh 9 (by simp[jZ]);generalize (jZ w.heap.size).foldl World.alloc w=V at *;have lt:∀ {i:Nat} {o:Obj},V.heap[w.heap.size+i]? = some o->w.heap.size+i<V.heap.size:=fun h=>(QV.1 h).1
 have k1:=uH h1 (lt h1);have k2:=uH h2 (lt h2);have k4:=uH h4 (lt h4);have k5:=uH h5 (lt h5);have k6:=uH h6 (lt h6);have k7:=uH h7 (lt h7);have hrs:iX V (some (aD (w.heap.size+8) 0)) [⟨some (aD (w.heap.size+4) 0),1,[4]⟩,⟨some (aD (w.heap.size+5) 0),1,[3]⟩,⟨some (aD (w.heap.size+6) 0),1,[3]⟩,⟨some (aD (w.heap.size+7) 0),1,[1073741824]⟩]:=by
  refine⟨⟨by simp,fun i hi=>⟨w.heap.size+8,0,rfl,?_⟩,fun i hi=>?_⟩,fun a ha=>by cases ha; exact lt h8,fun i hi=>?_⟩
  ·match i,hi with
   | 0,_ => exact Ji h8 rfl
   | 1,_ => exact Ji h8 rfl
   | 2,_ => exact Ji h8 rfl
   | 3,_ => exact Ji h8 rfl
  ·match i,hi with
   | 0,_ => exact k4.1
   | 1,_ => exact k5.1
   | 2,_ => exact k6.1
   | 3,_ => exact k7.1
  ·match i,hi with
   | 0,_ => exact k4
   | 1,_ => exact k5
   | 2,_ => exact k6
   | 3,_ => exact k7
 have hnil:∀ W:World,aB W none []:=fun W=>⟨by simp,fun i hi=>by simp at hi⟩
 refine⟨⟨by simp[rD],fun i hi=>⟨w.heap.size,0,rfl,?_⟩⟩,⟨k1.1,⟨by simp[lG],fun i hi=>by simp[lG]at hi,fun i hi=>by simp[lG]at hi⟩,hnil V,k2.1,hnil V,hnil V⟩,⟨⟨by simp[uG],fun i hi=>⟨w.heap.size+9,0,rfl,?_⟩,fun i hi=>?_⟩,fun i hi=>?_⟩⟩
 ·match i,hi with
  | 0,_ => exact⟨Ji h0 rfl,Ji h0 rfl,Ji h0 rfl,Ji h0 rfl,Ji h0 rfl,Ji h0 rfl⟩
 ·match i,hi with
  | 0,_ => exact Ji h9 rfl
 ·match i,hi with
  | 0,_ => exact hrs.1
 ·match i,hi with
  | 0,_ => exact hrs
theorem Rv(a:Option Addr)(c:Nat):SI ⟨a,c,[0]⟩ [[4],[3],[3],[1073741824]]:=by
 refine⟨(by decide:1<=4),by decide,(by decide:∀ r∈[[4],[3],[3],[1073741824]],bN [0] (List.length (α:=Int) r)=true),by unfold yM; decide,fun n=>?_⟩
 show ∀ s∈nC [0] _,_
 unfold yM
 match n with
 | 0 => decide
 | 1 => decide
 | 2 => decide
 | 3 => decide
 | n+4 => rw[Xl (by simp)]; decide
theorem aon(co:Option Addr)(b2 cc tT n:Nat)(w:World)(hts:aZ w co rD)(hq:(lG n).At w)(Mx:Kk w (some (aD b2 0)) (uG n)) :
  Calls Tryz.prog 52 #[.slice co 1 cc,.agg (lG n).cells,.slice (some (aD b2 0)) 1 tT] w fun e w'=>∃ (v:Value) (ys:List ah) (o:Nat->Prop) (w1:World),e=.returned (.tuple #[v,.int .i64 0])/\ys.map ah.xs=[[4,10]]/\ji (rF 3) w1.heap.size w1 23 ys o w' v/\Bw w w1:=by
 obtain⟨w0,hw0,hb0,hg0⟩:=aU w (lG n).cells 26;have hc1:=wI co cc rD (lG n) w0 (hts.below hb0) (hq.below hb0) (Qx _) (Qx _);rw[MC]at hc1;have HCD:Hid (∀ x:World,Bw w x->_):=fun x hb=>EX co cc rD (lG n) (some (aD b2 0)) tT (uG n) x (hts.below hb) (Qv hb hq.src) (Mx.1.below hb) rfl (show 1<=5 by decide)
 simp only[Ru,if_true]at HCD;have HB0:=Zh hb0;obtain⟨b,o,e,hc2⟩:=Mx.1.2.1.get (i:=0) (show 0<1 by decide)
 cases e
 obtain⟨b,o,e,hc3⟩:=hq.src.get (i:=0) (show 0<1 by decide)
 cases e
 have HAN:Hid (∀ x:World,Bw w x->Calls Tryz.prog 97 #[.agg (lG n).cells,.slice (some (aD b2 0)) 1 tT] x fun e w'=>∃ v,e=.returned v/\rO (rF 3) Tryz.prog v [[4,10]] w'/\Bw x w'):=fun x hb=>aeM (n+1) b2 tT (lG n).sums ((uG n).getD 0 rz) x (cB hb (hc3 0 (show 0<1 by decide))) (cB hb (hc2 0 (show 0<1 by decide))) ((Mx.2 0 (show 0<1 by decide)).below hb) (Qv hb hq.sums) (Rv _ _)
 have HG0:Hid _:=hg0;clear hts hq Mx hc2 hc3 hb0 hg0;unfold lG ae.cells ah.val at *;simp only[Zg,ZA,Nat.reduceAdd]at *;have g0:=HG0.o;obtain⟨c0,c1,c2,c3,c4,c5,c6⟩:_/\_/\_/\_/\_/\_/\_:=⟨GB.at g0 0,GB.at g0 1,GB.at g0 2,GB.at g0 3,GB.at g0 4,GB.at g0 5,GB.at g0 6⟩
 clear g0 HG0;go_enter Tryz.func52,Tryz.ntmps52;go_wp2_with fail;refine hc1.mono ?_;rintro e w1 ⟨rfl,hb1⟩;have ajh:=HB0.o.trans (hb1.mono HB0.o.size);have d0:=cB hb1 c0;have d1:=cB hb1 c1;have d2:=cB hb1 c2;have d3:=cB hb1 c3;have d4:=cB hb1 c4;have d5:=cB hb1 c5;have d6:=cB hb1 c6;have hcd:=HCD.o w1 ajh;clear hc1 c0 c1 c2 c3 c4 c5 c6 hw0;go_wp2_with fail;refine Xt hcd ?_;rintro e w2 ⟨rfl,hb2⟩;have hbw2:=ajh.trans (hb2.mono ajh.size);have e0:=cB hb2 d0;have e1:=cB hb2 d1;have e2:=cB hb2 d2;have e3:=cB hb2 d3;have e4:=cB hb2 d4;have e5:=cB hb2 d5;have e6:=cB hb2 d6;have han:=HAN.o w2 hbw2;clear hcd d0 d1 d2 d3 d4 d5 d6;go_wp2_with fail;refine Xt han ?_;rintro e w3 ⟨v,rfl,hsv,hb3⟩;have auB:=hbw2.trans (hb3.mono hbw2.size);obtain⟨g3,lb3,rfl,eg3,hs3⟩:=hsv;have hga:=ND (rF 3) (fun _=>rfl) g3 lb3 [[4,10]] w3 w3 (Qw _ _) (by decide) hs3 eg3;clear han e0 e1 e2 e3 e4 e5 e6 hs3 eg3;go_wp2_with fail;refine hga.mono ?_;rintro e w4 ⟨v4,ys,o4,rfl,hys,hG4⟩;obtain⟨va,vn,vc,rfl⟩:=ZP hG4.own;clear hga;go_wp2;go_ret2;exact⟨_,ys,o4,w3,rfl,hys,hG4,auB⟩
theorem VV(w:World):Cb 19 #[] w (.bool true):=by
 obtain⟨a1,a2,a3⟩:=abB w;have hev:=aon (some (aD w.heap.size 0)) (w.heap.size+1+1+1+1+1+1+1+1+1) 1 1 w.heap.size _ a1 a2 a3;have hbV:=nA (jZ w.heap.size) w;have HBV:=Zh hbV;clear a1 a2 a3 hbV;go_enter Tryz.func19,Tryz.ntmps19;go_wp2_with fail;refine hev.mono ?_;rintro e w2 ⟨v,ys,o,w1,rfl,hys,hG,hb1⟩;clear hev;have hy1:ys.length=1:=by
  have:=congrArg List.length hys
  simpa using this
 obtain⟨y,rfl⟩:=List.length_eq_one_iff.1 hy1;clear hy1;have hyx:y.xs=[4,10]:=by
  have:[y.xs]=[[4,10]]:=hys;injection this
 rcases Xd hG.own with⟨-,h⟩ | ⟨g,cap,rfl,-,-,hc⟩
 ·simp at h
 have hyA:=(hG.at' y (by simp)).1.1;obtain⟨yad,auC,yxs⟩:=y;simp only at hyx;subst hyx;obtain⟨b,off,rfl,hcs⟩:=Qj hyA (i:=0) (by simp);have q0:=hcs 0 (by simp);have q1:=hcs 1 (by simp);have hc':w2.cell? (aD g 0)=some (.slice (some (aD b off)) 2 auC):=hc 0 _ rfl;have q0':w2.cell? (aD b off)=some (.int .i64 4):=q0;have q1':w2.cell? (aD b (off+1))=some (.int .i64 10):=q1;have hbf:=HBV.o.trans ((hb1.trans (hG.below.mono hb1.size)).mono HBV.o.size);have HBF:=Zh hbf;clear hbf hc q0 q1 hcs hyA hG hb1 hys;simp only[Zg,ZA,Nat.reduceAdd];go_wp2;go_ret;exact⟨rfl,HBF.o⟩
