import Derived.Test.YtlpbelhfpoilpaaGreatDoorRE12
set_option linter.all false
set_option maxRecDepth 100000
set_option maxHeartbeats 16000000
namespace Go.Proofs.Zz
open Go.RowKit Go.Shelf
variable {ts:List af} {q:ae} {i k s:Nat} {xs:List Int} {ops:Array Oper}
theorem acm(ok:Ok ts q)(hk:k<q.wh.length):bE (dD ts q.src.xs (q.wh.getD k lz).cs)<18446744073709551616:=
 (oV ok.cat ok.src (ok.aO k hk)).lt ok.small
theorem TI{ts:List af}{q:ae}{l:List Int}{s k:Nat}(hk:k<l.length)(h:vF ts q l s k=false):iW ts q l s=false:=by
 show (List.range l.length).all (vF ts q l s)=false
 rw[Qo];exact⟨k,Xq.2 hk,by rw[h]; simp⟩
theorem TJ{ts:List af}{q:ae}{l:List Int}{s:Nat}(h:∀ i,i<l.length->vF ts q l s i=true):iW ts q l s=true:=by
 show (List.range l.length).all (vF ts q l s)=true
 rw[Qu];exact fun i hi=>h i (Xq.1 hi)
theorem sj(f:au)(ts:List af)(q:ae)(la:Option Addr)(lc:Nat)(l:List Int)(s:Nat)(w:World)(ok:Ok ts q)(hf:f.At ts q w)(hl:aB w la l)(hs:s<18446744073709551616) :
  Cb 199 #[.agg (f.cells ts q),.slice la l.length lc,.int .u64 (s:Int)] w (.bool (iW ts q l s)):=by
 obtain⟨w1,hw1⟩:∃ x,x=w.alloc (.cells (f.cells ts q) 90):=⟨_,rfl⟩
 have hk1:Bw w w1:=by rw[hw1]; exact dn _ _
 have uI:GB w1 w.heap.size 90 (f.cells ts q):=by rw[hw1]; exact l6 _ _
 have q1:=uI.at 1;have q11:w1.cell? (aD w.heap.size 11)=some (.slice f.na q.wh.length f.nc):=by rw[<- hf.nl]; exact uI.cell 11
 have hWC:w.alloc (.cells (f.cells ts q) 90)=w1:=hw1.symm;have JV:Hid _:=hf.conc.below hk1;have DF:Hid _:=Qv hk1 hl;have hl1:=hl.1;have hwl:=hf.query.wh.1;have HB:Hid _:=@TI ts q l s;have HA:Hid _:=@TJ ts q l s;have HAT:Hid (∀ i,vF ts q l s i=(decide ((if i=0 then -1 else l.getD (i-1) 0)<l.getD i 0)&&decide (l.getD i 0<q.wh.length)&&aS s (bE (dD ts q.src.xs (q.wh.getD (l.getD i 0).toNat lz).cs)))):=fun _=>rfl
 have HCG:Hid (∀ k,k<q.wh.length->(aF ts q).getD k 0=bE (dD ts q.src.xs (q.wh.getD k lz).cs)/\bE (dD ts q.src.xs (q.wh.getD k lz).cs)<18446744073709551616):=fun k hk=>⟨yZ ts q hk,acm ok hk⟩
 have qI:Hid _:=Xa ts q;have oG:Hid _:=hk1;generalize iW ts q l s=RB at *;obtain⟨CN,Yb⟩:∃ CN:Nat->Nat,CN=fun k=>bE (dD ts q.src.xs (q.wh.getD k lz).cs):=⟨_,rfl⟩
 have JW:Hid (∀ i,vF ts q l s i=(decide ((if i=0 then -1 else l.getD (i-1) 0)<l.getD i 0)&&decide (l.getD i 0<q.wh.length)&&aS s (CN (l.getD i 0).toNat))):=fun i=>by rw[Yb]; exact HAT.o i
 have ap5:Hid (∀ k,k<q.wh.length->(aF ts q).getD k 0=CN k/\CN k<18446744073709551616):=fun k hk=>by rw[Yb]; exact HCG.o k hk
 clear Yb HAT HCG;generalize vF ts q l s=RA at *;generalize aF ts q=CL at *;generalize hNW:q.wh.length=nw at *;clear hNW;generalize f.cells ts q=FC at *;have hnw:nw<=1152921504606846976:=hwl;clear hw1 uI hf hl ok hk1;go_enter Tryz.func199,Tryz.ntmps199;go_wp2;clear hWC;go_loopw [7,12] (fun lv iv wr=>∃ k:Nat,k<=l.length/\iv=.int .i64 k/\(∃ last:Int,lv=.int .i64 last/\-1<=last/\Hid (last=if k=0 then -1 else l.getD (k-1) 0))/\Hid (∀ j,j<k->RA j=true)/\wr=w1) (fun _ iv _=>l.length-(intOf iv).toNat)
 case atStart=>exact⟨0,Q8 _,rfl,⟨-1,rfl,by omega,rfl⟩,fun j hj=>absurd hj (by omega),rfl⟩
 case round=>
  obtain⟨k,hk,rfl,⟨last,rfl,hlast,Gw⟩,HJ,rfl⟩:=hrel;by_cases hlt:k<l.length
  ·obtain⟨lb,lo,rfl,hlc⟩:=Qj DF.o hlt;have hck:=hlc k hlt;have mh:Hid _:=JW.o k;have yO:Hid _:=HB.o hlt;rw[<- Gw.o]at mh;have oz:Hid (∀ c,c=l.getD k 0->c=if k+1=0 then -1 else l.getD (k+1-1) 0):=fun c hc=>by rw[Qz (by omega)]; exact hc
   have Fs:Hid (RA k=true->∀ j,j<k+1->RA j=true):=fun h j hj=>by
    rcases Qq j k with h' | h'
    ·exact HJ.o j h'
    ·obtain rfl:j=k:=by omega
     exact h
   clear hlc Gw HJ HB HA JW;obtain⟨c,hce⟩:=eY (l.getD k 0)
   rw[<- hce]at hck mh;have acn:Hid _:=oz.o c hce;clear hce oz;by_cases h1:c<=last
   ·have HV:Hid (RB=false):=yO.o (by rw[mh.o,Ql (by omega)]; rfl);clear mh yO Fs;go_wp2;go_ret;exact⟨Qg HV.o.symm,oG.o⟩
   by_cases h2:(nw:Int)<=c
   ·have HV:Hid (RB=false):=yO.o (by rw[mh.o,Ql (show ¬ c<(nw:Int) by omega),Qn]; rfl);clear mh yO Fs;go_wp2;go_ret;exact⟨Qg HV.o.symm,oG.o⟩
   obtain⟨n,rfl⟩:=Xo (show 0<=c by omega);have hn:n<nw:=by omega
   obtain⟨hcg,ap7⟩:=ap5.o n hn;obtain⟨cb,co,akk,hcc⟩:=fF.get JV.o (show n<CL.length by rw[qI.o]; exact hn);have hcn:=hcc n (by rw[qI.o]; exact hn);rw[hcg]at hcn;rw[Zj]at mh;clear hcc hcg;rw[akk]at q11;clear akk;generalize CN n=m at *;have DX:=lN s m hs ap7 wr;by_cases h3:aS s m=true
   ·rw[h3]at DX mh;have HT:Hid _:=Fs.o (by rw[mh.o,QD (by omega),QD (by omega)]; rfl);clear mh yO Fs h3;go_wp2_with fail;refine DX.mono ?_;clear DX;rintro e w2 ⟨rfl,rfl⟩;go_wp2;go_roundw
    case rel=>exact⟨k+1,by omega,by go_num,⟨n,rfl,by omega,acn.o⟩,HT.o,trivial⟩
    case measure=>simp[intOf]; omega
   ·have h3':aS s m=false:=by simpa using h3
    rw[h3']at DX mh;have HV:Hid (RB=false):=yO.o (by rw[mh.o,Qn]);clear mh yO Fs h3 h3';go_wp2_with fail;refine DX.mono ?_;clear DX;rintro e w2 ⟨rfl,rfl⟩;go_wp2;go_ret;exact⟨Qg HV.o.symm,oG.o⟩
  ·have HV:Hid (RB=true):=HA.o (fun i hi=>HJ.o i (by omega));clear HB HA HJ;go_wp2;go_ret;exact⟨Qg HV.o.symm,oG.o⟩
def fo(ts:List af)(q:ae)(xs:List Int):List Int:=xs.map fun c=>(aY ts q.src.xs c:Int)
def bF(cs:List aC):Int × Int × Bool:=
 if cs.length > 1∨(cs.getD 0 cz).op≠0∨(cs.getD 0 cz).not=true∨(cs.getD 0 cz).const=true then (0,0,false) else ((cs.getD 0 cz).left,(cs.getD 0 cz).right,true)
theorem TK(ts:List af)(q:ae)(hk:k<xs.length):bE (fo ts q (xs.take (k+1)))=bE (fo ts q (xs.take k))|||2 ^ aY ts q.src.xs (xs.getD k 0):=by
 have e:xs.getD k 0=xs[k]:=by simp[List.getD,hk]
 unfold fo;rw[Qr hk,Qs,zZ,e]
 show _|||bE [(aY ts q.src.xs xs[k]:Int)]=_
 rw[Br]
def gB(ts:List af)(q:ae)(xs:List Int):Prop:=∀ c∈xs,0<=c/\c<aJ ts q.src.xs
theorem vG(ok:Ok ts q)(h:gB ts q xs):gG q.src.xs.length (fo ts q xs):=fun x hx=>by
 obtain⟨c,hc,rfl⟩:=Zi.1 hx;obtain⟨h0,h1⟩:=h c hc;have:=(nJ ok.cat ok.src h0 h1).1;omega
theorem RJ(ok:Ok ts q)(h:gB ts q xs)(k:Nat):bE (fo ts q (xs.take k))<18446744073709551616:=
 (vG ok (fun c hc=>h c (Xj hc))).lt ok.small
theorem zg(ok:Ok ts q):((iP ts q).length:Int)=aJ ts q.src.xs:=by
 have:=qB ok.cat ok.src q.src.xs.length (Qx _);rw[QA]at this;exact this
theorem BN(ok:Ok ts q){c:Int}(h0:0<=c)(h1:c<aJ ts q.src.xs):aY ts q.src.xs c<q.src.xs.length:=(nJ ok.cat ok.src h0 h1).1
theorem BO(c:aC)(w:World) :
  Cb 264 #[c.val] w (.bool (!c.const&&decide (c.op≠2))):=by
 obtain⟨not,op,left,const,right⟩:=c;have hb:=dn w (.cells #[.bool not,.int .i64 op,.int .i64 left,.bool const,.int .i64 right] 134);have HB:=Zh hb;clear hb;have HD:Hid (decide (op≠2)=(op != 2)):=by show _=_; rw[QI]; simp
 unfold aC.val
 cases const with
 | false =>
  go_enter Tryz.func264,Tryz.ntmps264;go_wp2;go_ret;exact⟨Qg (by show _=(true&&decide (op≠2)); rw[HD.o]; rfl),HB.o⟩
 | true =>
  go_enter Tryz.func264,Tryz.ntmps264;go_wp2;go_ret;exact⟨rfl,HB.o⟩
theorem vH(w:World)(xs:List Int)(t:TypeId)(hl:xs.length<=1000):aB (w.alloc (.cells (xs.map (Value.int .i64)).toArray t)) (some (aD w.heap.size 0)) xs:=by
 refine⟨by omega,fun i hi=>⟨w.heap.size,0,rfl,?_⟩⟩;simp only[World.cell?,l6 w _];simp[List.getD,hi]
theorem rG(c:aC)(w:World) :
  Calls Tryz.prog 197 #[c.val] w fun e w'=>∃ b,e=.returned (.slice (some (aD b 0)) (aN c).length (aN c).length)/\aB w' (some (aD b 0)) (aN c)/\Bw w w':=by
 have HN:Hid _:=fun x=>BO c x
 obtain⟨w1,hw1,hk1,uI⟩:=aU w #[.bool c.not,.int .i64 c.op,.int .i64 c.left,.bool c.const,.int .i64 c.right] 134;obtain⟨g0,g1,g2,g3,g4⟩:=uI.k5;have HC:Hid (aN c=if (!c.const&&decide (c.op≠2))=true then [c.left,c.right] else [c.left]):=by
  show _=_
  unfold aN
  cases c.const <;> by_cases h:c.op=2 <;> simp[h]
 have hN:=HN.o w1;generalize (!c.const&&decide (c.op≠2))=B at *;generalize aN c=CC at *;clear HN uI;obtain⟨not,op,left,const,right⟩:=c;unfold aC.val at *;simp only at *;have oG:=Zh hk1;clear hk1
 cases B with
 | true =>
  obtain rfl:CC=[left,right]:=HC.o;have V3:Hid (∀ x:World,aB (x.alloc (.cells #[.int .i64 left,.int .i64 right] 3)) (some (aD x.heap.size 0)) [left,right]):=fun x=>vH x [left,right] _ (by simp)
  clear HC;go_enter Tryz.func197,Tryz.ntmps197;go_wp2_with fail;refine hN.mono ?_;clear hN hw1;rintro e w2 ⟨rfl,hb2⟩;have e2:=cB hb2 g2;have e4:=cB hb2 g4;have HB2:=Zh (aA (aA oG.o hb2) (dn w2 (.cells #[.int .i64 left,.int .i64 right] 3)));clear hb2 g0 g1 g2 g3 g4;go_wp2;go_ret;exact⟨_,rfl,V3.o _,HB2.o⟩
 | false =>
  obtain rfl:CC=[left]:=HC.o;have V3:Hid (∀ x:World,aB (x.alloc (.cells #[.int .i64 left] 3)) (some (aD x.heap.size 0)) [left]):=fun x=>vH x [left] _ (by simp)
  clear HC;go_enter Tryz.func197,Tryz.ntmps197;go_wp2_with fail;refine hN.mono ?_;clear hN hw1;rintro e w2 ⟨rfl,hb2⟩;have e2:=cB hb2 g2;have HB2:=Zh (aA (aA oG.o hb2) (dn w2 (.cells #[.int .i64 left] 3)));clear hb2 g0 g1 g2 g3 g4;go_wp2;go_ret;exact⟨_,rfl,V3.o _,HB2.o⟩
theorem pg(f:au)(ts:List af)(q:ae)(xa:Option Addr)(xc:Nat)(xs:List Int)(w:World)(ok:Ok ts q)(hf:iF w f.ca (iP ts q))(hx:aB w xa xs)(hxs:gB ts q xs) :
  Cb 196 #[.agg (f.cells ts q),.slice xa xs.length xc] w (.int .u64 ((bE (fo ts q xs):Nat):Int)):=by
 obtain⟨w1,hw1⟩:∃ x,x=w.alloc (.cells (f.cells ts q) 90):=⟨_,rfl⟩
 have hk1:Bw w w1:=by rw[hw1]; exact dn _ _
 have uI:GB w1 w.heap.size 90 (f.cells ts q):=by rw[hw1]; exact l6 _ _
 have q7:=uI.at 7;have hWC:=hw1.symm;have nG:Hid _:=hf.below hk1;have HXI:Hid _:=Qv hk1 hx;have hxl:=hx.1;have hcl:=hf.1;have HST:Hid (∀ k,k<xs.length->bE (fo ts q (xs.take (k+1)))=bE (fo ts q (xs.take k))|||2 ^ aY ts q.src.xs (xs.getD k 0)):=fun k hk=>TK ts q hk
 have Fu:Hid (∀ k,bE (fo ts q (xs.take k))<18446744073709551616):=fun k=>RJ ok hxs k
 have xC:Hid (bE (fo ts q (xs.take xs.length))=bE (fo ts q xs)):=by show _=_; rw[QA]
 have HS0:Hid (bE (fo ts q (xs.take 0))=0):=rfl;have HXC:Hid (∀ k,k<xs.length->∃ n:Nat,xs.getD k 0=n/\n<(iP ts q).length/\((iP ts q).getD n (0,0)).1=aY ts q.src.xs (xs.getD k 0)/\aY ts q.src.xs (xs.getD k 0)<64):=fun k hk=>by
  obtain⟨h0,h1⟩:=hxs _ (Z7 hk (d:=0));have h2:=zg ok;have h3:=BN ok h0 h1;have h4:=ok.small;refine⟨(xs.getD k 0).toNat,by omega,by omega,rfl,by omega⟩
 have oG:=Zh hk1;obtain⟨ST,hST⟩:∃ ST:Nat->Nat,ST=fun k=>bE (fo ts q (xs.take k)):=⟨_,rfl⟩
 have pq:Hid (∀ k,k<xs.length->ST (k+1)=ST k|||2 ^ aY ts q.src.xs (xs.getD k 0)):=by rw[hST]; exact HST.o
 have af6:Hid (∀ k,ST k<18446744073709551616):=by rw[hST]; exact Fu.o
 have af7:Hid (ST xs.length=bE (fo ts q xs)):=by rw[hST]; exact xC.o
 have af8:Hid (ST 0=0):=by rw[hST]; exact HS0.o
 generalize bE (fo ts q xs)=R at *;generalize aY ts q.src.xs=SN at *;generalize iP ts q=CS at *;generalize f.cells ts q=FC at *;clear hST HST Fu xC HS0 hw1 uI hk1 ok hxs hf hx;go_enter Tryz.func196,Tryz.ntmps196;go_wp2;clear hWC;go_loopw [5,10] (fun sv iv wr=>∃ k:Nat,k<=xs.length/\iv=.int .i64 k/\(∃ s:Nat,sv=.int .u64 (s:Int)/\Hid (s=ST k))/\Bw w1 wr) (fun _ iv _=>xs.length-(intOf iv).toNat)
 case atStart=>exact⟨0,Q8 _,rfl,⟨0,rfl,af8.o.symm⟩,Qw _ _⟩
 case round=>
  obtain⟨k,hk,rfl,⟨s,rfl,hs⟩,hbr⟩:=hrel;by_cases hlt:k<xs.length
  ·obtain⟨xb,xo,rfl,MK⟩:=Qj HXI.o hlt;have hck:=cB hbr (MK k hlt);obtain⟨n,hn,hnl,hcn,akl⟩:=HXC.o k hlt;have HT:=Zh (pq.o k hlt);have hsl:s<18446744073709551616:=by rw[hs.o]; exact af6.o k
   obtain⟨cb,co,hca,c0,_⟩:=nG.o.2 n hnl;have d0:=cB hbr c0;have q7':=cB hbr q7;rw[hca]at q7';rw[hn]at hck;rw[hcn]at d0;rw[<- hs.o]at HT;clear MK c0 hca hcn hs;generalize SN (xs.getD k 0)=m at *;clear hn;obtain⟨wa,JY⟩:∃ x,wr.alloc (.cells #[.int .i64 (m:Int)] 3)=x:=⟨_,rfl⟩
   have Fw:=uf wr.heap.size m wa (by rw[<- JY]; simp) akl;obtain⟨wb,hwb⟩:∃ x,wa.alloc (.cells #[.int .u64 (s:Int),.int .u64 ((2 ^ m:Nat):Int)] 86)=x:=⟨_,rfl⟩
   have hp:2 ^ m<18446744073709551616:=Xi (n:=64) (by omega) akl;have hUN:=jM wa.heap.size s (2 ^ m) wb (by rw[<- hwb]; simp) (by rw[<- hwb]; simp) hsl hp;have jV:Hid (Bw w1 wb):=by
    show Below _ _ _
    rw[<- hwb,<- JY];exact aA (aA hbr (dn _ _)) (dn _ _)
   generalize 2 ^ m=p at *;go_wp2_with fail;refine Fw.mono ?_;clear Fw;rintro e w2 ⟨rfl,rfl⟩;go_wp2_with fail;refine hUN.mono ?_;clear hUN;rintro e w3 ⟨rfl,rfl⟩;clear JY hwb;go_wp2;go_roundw
   case rel=>exact⟨k+1,by omega,by go_num,⟨s|||p,rfl,HT.o.symm⟩,jV.o⟩
   case measure=>simp[intOf]; omega
  ·obtain rfl:k=xs.length:=by omega
   have HV:=Zh (hs.o.trans af7.o);have HB:=Zh (aA oG.o hbr);clear hs hbr;go_wp2;go_ret;exact⟨Qh (by rw[HV.o]),HB.o⟩
theorem BQ(f:au)(ts:List af)(q:ae):∃ v0 v1 v2 v3 v4 v5 v6 v7 v8 v9 v10 v11 v12,f.cells ts q=#[v0,v1,v2,v3,v4,v5,v6,v7,v8,v9,v10,v11,v12]/\v0=q.src.val/\v1=.slice q.bY q.wh.length q.aI/\v2=.bool q.group/\v3=q.keys.val/\v4=q.sums.val/\v5=q.aV.val/\v6=q.ord.val/\
  v7=.slice f.ca (iP ts q).length f.cc/\v8=.int .u64 ((2 ^ q.src.xs.length-1:Nat):Int)/\v9=.int .u64 ((2 ^ q.wh.length-1:Nat):Int)/\v10=.slice f.ra q.src.xs.length f.rc/\v11=.slice f.na f.nl f.nc/\v12=.slice f.pa f.pl f.pc:=
 ⟨_,_,_,_,_,_,_,_,_,_,_,_,_,rfl,rfl,rfl,rfl,rfl,rfl,rfl,rfl,rfl,rfl,rfl,rfl,rfl,rfl⟩
theorem su(f:au)(ts:List af)(q:ae)(p:az)(w:World) :
  Cb 204 #[.agg (f.cells ts q),.agg p.cells] w (.bool (jU q p.d)):=by
 obtain⟨w1,hw1,hk1,hg1⟩:=aU w ((f.cells ts q)) 90;obtain⟨w2,hw2,hk2,hg2⟩:=aU w1 p.cells 95;have hc1:=hk2;have hc0:=aA hk1 hc1;have iq:=hg1.of (hc1.block _ hg1.lt);have fV:=iq.at 8;have fZ:=iq.at 9;have kI:=hg2;have lJ:=kI.at 1;have lK:=kI.at 2;have HV:Hid (jU q p.d=(decide (p.sources=2 ^ q.src.xs.length-1)&&decide (p.clauses=2 ^ q.wh.length-1))):=rfl;have HC:=Zh hc0;generalize jU q p.d=B at *;generalize f.cells ts q=FC at *;generalize p.cells=PC at *;generalize 2 ^ q.src.xs.length-1=s at *;generalize 2 ^ q.wh.length-1=c at *;generalize p.sources=a at *;generalize p.clauses=b at *;by_cases h1:a=s
 ·subst h1;have TL:Hid (B=((b:Int)==(c:Int))):=by
   show _=_
   rw[HV.o,QD rfl,QE,QI,QJ,beq_iff_eq];omega
  go_enter Tryz.func204,Tryz.ntmps204;go_wp2;go_ret;exact⟨Qg TL.o.symm,HC.o⟩
 ·have TL:Hid (B=false):=by show _=_; rw[HV.o,Ql h1,Qm]
  have h1':((a:Int)==(s:Int))=false:=by rw[Xr]; omega
  go_enter Tryz.func204,Tryz.ntmps204;go_wp2;go_ret;exact⟨Qg TL.o.symm,HC.o⟩
theorem qJ(f:au)(ts:List af)(q:ae)(n:ai)(l r:az)(w:World)(ok:Ok ts q)(hf:f.At ts q w)(hn:n.cl.At w)(hl:l.sources<=bV)(hr:r.sources<=bV) :
  Cb 200 #[.agg (f.cells ts q),.agg n.cells,.agg l.cells,.agg r.cells] w (.bool (kg ts q n l.sources r.sources)):=by
 obtain⟨v0,v1,v2,v3,v4,v5,v6,v7,v8,v9,v10,v11,v12,bB,-⟩:=BQ f ts q;obtain⟨w1,hw1,hk1,hg1⟩:=aU w ((f.cells ts q)) 90;obtain⟨w2,hw2,hk2,hg2⟩:=aU w1 n.cells 58;obtain⟨w3,hw3,hk3,hg3⟩:=aU w2 l.cells 95;obtain⟨w4,hw4,hk4,hg4⟩:=aU w3 r.cells 95;have hc3:=hk4;have hc2:=aA hk3 hc3;have hc1:=aA hk2 hc2;have hc0:=aA hk1 hc1;have iq:=hg1.of (hc1.block _ hg1.lt);have kI:=hg2.of (hc2.block _ hg2.lt);have kr:=kI.at 4;have gg3:=hg3.of (hc3.block _ hg3.lt);have NP:=gg3.at 1;have gg4:=hg4;have NQ:=gg4.at 1;obtain⟨dJ,dY,dH,dW,dZ,eU,eH,gy,fV,fZ,dz,dE,dA⟩:=iq.k13 (by rw[bB]; rfl);have HCF:Hid (∀ x,Bw w4 x->∀ s:Nat,s<18446744073709551616->Cb 199 #[.agg (f.cells ts q),.slice n.cl.ad n.cl.xs.length n.cl.cap,.int .u64 (s:Int)] x (.bool (iW ts q n.cl.xs s))):=fun x hb s hs=>
  sj f ts q n.cl.ad n.cl.cap n.cl.xs s x ok (hf.below (aA hc0 hb)) (Qv (aA hc0 hb) hn) hs
 have HV:Hid (kg ts q n l.sources r.sources=(decide (l.sources &&& r.sources=0)&&iW ts q n.cl.xs (l.sources|||r.sources))):=rfl;have hla:l.sources<18446744073709551616:=by unfold bV at hl; omega
 have hra:r.sources<18446744073709551616:=by unfold bV at hr; omega
 have hME:=Fj l.sources r.sources hla hra w4;have HUN:Hid (∀ (x:World) (b:Nat),_->_->_):=fun x b h0 h1=>jM b l.sources r.sources x h0 h1 hla hra
 have hor:l.sources|||r.sources<18446744073709551616:=Xk (n:=64) hla hra
 have HOR:=Zh hor;have HC:=Zh hc0;rw[bB]at HCF hw1 ⊢;obtain⟨nk,nl,nr,ns,⟨na,nc,nx⟩,ny,no⟩:=n;unfold ah.val at *;simp only at *;generalize kg ts q _ l.sources r.sources=J at *;generalize iW ts q nx=RB at *;generalize ai.cells _=NC at *;generalize l.cells=LC at *;generalize r.cells=RC at *;generalize l.sources=a at *;generalize r.sources=b at *;by_cases hm:a &&& b=0
 ·have hmd:decide (a &&& b≠0)=false:=Ql (fun h=>h hm);have TL:Hid (J=RB (a|||b)):=by show _=_; rw[HV.o,QD hm,QE]
  rw[hmd]at hME;go_enter Tryz.func200,Tryz.ntmps200;go_wp2_with fail;refine hME.mono ?_;rintro e w5 ⟨rfl,rfl⟩;go_wp2;refine wH w5 fun hS=>?_
  refine wT 0 (.agg #[v0,v1,v2,v3,v4,v5,v6,v7,v8,v9,v10,v11,v12]) hS (fun x hx=>?_) ?_
  ·have e0:=lI hx dJ dY dH dW dZ eU eH gy fV fZ dz dE dA;go_simp
  refine wt 1 (.pointer (some (aD w1.heap.size 4))) hS ?_;refine lH 2 (.slice na nx.length nc) hS kr ?_;refine wt 3 (.pointer (some (aD w2.heap.size 1))) hS ?_;refine lH 4 (.int .u64 (a:Int)) hS NP ?_;refine wt 5 (.pointer (some (aD w3.heap.size 1))) hS ?_;refine lH 6 (.int .u64 (b:Int)) hS NQ ?_;refine wR 7 fun K hK=>?_
  go_simp;refine oA hK hS fun hS=>?_
  refine wR 8 fun K hK=>?_
  go_simp;refine Xt (HUN.o _ w5.heap.size (by simp) (by simp)) ?_;rintro e w6 ⟨rfl,rfl⟩;refine hK.o _ _ hS fun hS=>?_
  refine wR 9 fun K hK=>?_
  go_simp;refine Xt (HCF.o _ hS (a|||b) HOR.o) ?_;rintro e w7 ⟨rfl,iZ⟩;refine oT hK hS iZ fun hS=>?_
  refine wR 10 fun K hK=>?_
  go_simp;refine hK.o _ _ hS fun hS=>?_
  refine wD ?_
  try simp only[pU]
  have Yc:=Zh (aA HC.o hS);go_wp2;go_ret;exact⟨Qg TL.o.symm,Yc.o⟩
 ·have hmd:decide (a &&& b≠0)=true:=QD hm;have TL:Hid (J=false):=by show _=_; rw[HV.o,Ql hm,Qm]
  rw[hmd]at hME;go_enter Tryz.func200,Tryz.ntmps200;go_wp2_with fail;refine hME.mono ?_;rintro e w5 ⟨rfl,rfl⟩;go_wp2;go_ret;exact⟨Qg TL.o.symm,HC.o⟩
def Xu:=@BQ
theorem TM(p:az):p.cells=#[.int .i64 p.kind,.int .u64 (p.sources:Int),.int .u64 (p.clauses:Int),p.order.val,.int .u64 (p.size:Int),.int .u64 (p.cost:Int)]:=rfl
theorem Yd(k:Int)(l r s:Nat):uO k l r s<=bV:=by
 unfold uO
 repeat' split
 ·exact xz _
 ·exact xz _
 ·exact yY _ _
theorem NR(p:az)(ao:Option Addr)(cap:Nat)(ps:List az)(w:World)(hp:PartsAt w ao ps)(hz:p.size<=bV)(h1:p.kind≠1->0<ps.length)(h2:3<=p.kind->p.kind<=5->1<ps.length) :
  Cb 208 #[.agg p.cells,.slice ao ps.length cap] w (.int .u64 (kU p.kind p.size (ps.getD 0 aT).cost (ps.getD 0 aT).size (ps.getD 1 aT).cost (ps.getD 1 aT).size:Nat)):=by
 obtain⟨w1,hw1,hk1,hg1⟩:=aU w p.cells 95;have hc0:=hk1;have iq:=hg1;have dJ:=iq.at 0;have dZ:=iq.at 4;have HC:=Zh hc0;generalize hPC:p.cells=PC at *;clear hPC;by_cases k1:p.kind=1
 ·have HV:Hid (kU p.kind p.size (ps.getD 0 aT).cost (ps.getD 0 aT).size (ps.getD 1 aT).cost (ps.getD 1 aT).size=jD [p.size,1]):=by show _=_; unfold kU; rw[Qy k1]
  generalize kU p.kind p.size (ps.getD 0 aT).cost (ps.getD 0 aT).size (ps.getD 1 aT).cost (ps.getD 1 aT).size=R at *;have hS:=af1 w1 p.size 1 hz (by unfold bV; omega);rw[<- HV.o]at hS;have kb:(p.kind==1)=true:=by simp[k1]
  clear HV k1 h1 h2 hz hg1 iq hk1 hc0 hp;generalize p.kind=k at *;generalize p.size=s at *;go_enter Tryz.func208,Tryz.ntmps208;go_wp2_with fail;refine hS.mono ?_;clear hS;rintro e w2 ⟨rfl,hb2⟩;have HB:=Zh (aA HC.o hb2);clear hb2;go_wp2;go_ret;exact⟨rfl,HB.o⟩
 have hn0:=h1 k1;have hpl:=hp.1;obtain⟨⟨pb,po,rfl,c0,c1,c2,c3,c4,c5⟩,hl⟩:=hp.2 0 hn0;rw[QP,Zf]at c0 c1 c2 c3 c4 c5;have HP1:Hid (1<ps.length->w.cell? (aD pb (po+6))=some (.int .i64 (ps.getD 1 aT).kind)/\w.cell? (aD pb (po+6+1))=some (.int .u64 ((ps.getD 1 aT).sources:Int))/\
  w.cell? (aD pb (po+6+2))=some (.int .u64 ((ps.getD 1 aT).clauses:Int))/\w.cell? (aD pb (po+6+3))=some (ps.getD 1 aT).order.val/\
  w.cell? (aD pb (po+6+4))=some (.int .u64 ((ps.getD 1 aT).size:Int))/\w.cell? (aD pb (po+6+5))=some (.int .u64 ((ps.getD 1 aT).cost:Int))/\(ps.getD 1 aT).size<=bV/\(ps.getD 1 aT).cost<=bV):=fun h=>by
  obtain⟨⟨b',o',e,d0,d1,d2,d3,d4,d5⟩,hr⟩:=hp.2 1 h
  cases e
  rw[Nat.one_mul]at d0 d1 d2 d3 d4 d5;exact⟨d0,d1,d2,d3,d4,d5,hr.size,hr.cost⟩
 have hlz:=hl.size;have hlc:=hl.cost;obtain⟨R,hR⟩:=eY (kU p.kind p.size (ps.getD 0 aT).cost (ps.getD 0 aT).size (ps.getD 1 aT).cost (ps.getD 1 aT).size)
 rw[<- hR];unfold kU at hR;rw[Qz k1]at hR;have HV:=Zh hR;clear hR;have h2':=h2;clear hp hl h1 h2 hg1 iq;generalize p.kind=k at *;generalize p.size=s at *;generalize ps.getD 0 aT=l at *;generalize ps.getD 1 aT=r at *;obtain⟨lk,ls,Gx,⟨la,Fx,lx⟩,lz,lc⟩:=l;obtain⟨rk,rs,rcl,⟨ra,rcp,rx⟩,rz,rc⟩:=r;unfold ah.val at *;simp only at *;obtain⟨w2,hw2,hk2,hg2⟩:=aU w1 #[.int .i64 lk,.int .u64 (ls:Int),.int .u64 (Gx:Int),.slice la lx.length Fx,.int .u64 (lz:Int),.int .u64 (lc:Int)] 95;have d0:=cB hc0 c0;have d1:=cB hc0 c1;have d2:=cB hc0 c2;have d3:=cB hc0 c3;have d4:=cB hc0 c4;have d5:=cB hc0 c5;have m0:=cB hk2 dJ;have m4:=cB hk2 dZ;have l4:=hg2.at 4;have l5:=hg2.at 5;have xE:=Zh (aA HC.o hk2);have kb1:(k==1)=false:=by simp[k1]
 clear c0 c1 c2 c3 c4 c5 hg2 hk1 hc0 hk2 k1;go_enter Tryz.func208,Tryz.ntmps208;go_wp2;refine QG (by kernel_rfl) (by kernel_rfl) ?_;refine qS (.pointer (some (aD w1.heap.size 4))) ?_;refine qC (.int .u64 (lz:Int)) l4 ?_;refine qS (.pointer (some (aD w.heap.size 4))) ?_;refine qC (.int .u64 (s:Int)) m4 ?_;refine qS (.int .u64 (lz:Int)) ?_;refine qS (.int .u64 (s:Int)) ?_;refine Xv ?_;intro w3 hb3;have n0:=cB hb3 m0;have n5:=cB hb3 l5;have ML:=Zh (aA xE.o hb3);have HPr:Hid (1<ps.length->_):=fun h=>HP1.o h
 clear hw1 hw2 m0 m4 l4 l5 hb3 d0 d1 d2 d3 d4 d5 dJ dZ HP1 HC xE;by_cases NT:k=3∨k=4∨k=5
 ·rw[Qy NT]at HV;obtain⟨q0,q1,q2,q3,q4,q5,hrz,hrc⟩:=HPr.o (h2' (by omega) (by omega));have e0:=cB ML.o q0;have e1:=cB ML.o q1;have e2:=cB ML.o q2;have e3:=cB ML.o q3;have e4:=cB ML.o q4;have e5:=cB ML.o q5;have ako:=h2' (by omega) (by omega);obtain⟨w4,hw4,hk4,hg4⟩:=aU w3 #[.int .i64 rk,.int .u64 (rs:Int),.int .u64 (rcl:Int),.slice ra rx.length rcp,.int .u64 (rz:Int),.int .u64 (rc:Int)] 95;have r4:=hg4.at 4;have r5:=hg4.at 5;have t0:=cB hk4 n0;have t5:=cB hk4 n5;have HC4:=Zh (aA ML.o hk4);have HJW:Hid (∀ x,_):=fun x=>Gs k lz rz s x hlz hrz hz
  have JU:Hid (uO k lz rz s<=bV):=Yd _ _ _ _;have RO:Hid (∀ (x:World) (m:Nat),m<=bV->_):=fun x m hm=>af2 x lc rc m hlc hrc hm
  generalize uO k lz rz s=wk at *;clear q0 q1 q2 q3 q4 q5 hk4 hg4 h2' HPr hlz hlc hrz hrc hz;have HK:=Zh NT;clear NT;rcases HK.o with h | h | h
  ·subst h;clear HK;go_wp2;refine wH w4 fun hS=>?_
   refine wt 0 (.pointer (some (aD w1.heap.size 5))) hS ?_;refine lH 1 (.int .u64 (lc:Int)) hS t5 ?_;refine wt 2 (.pointer (some (aD w3.heap.size 5))) hS ?_;refine lH 3 (.int .u64 (rc:Int)) hS r5 ?_;refine wt 4 (.pointer (some (aD w.heap.size 0))) hS ?_;refine lH 5 (.int .i64 3) hS t0 ?_;refine wt 6 (.int .u64 (lz:Int)) hS ?_;refine wt 7 (.pointer (some (aD w3.heap.size 4))) hS ?_;refine lH 8 (.int .u64 (rz:Int)) hS r4 ?_;refine wt 9 (.int .u64 (s:Int)) hS ?_;refine wR 10 fun K hK=>?_
   go_simp;refine Xt (HJW.o _) ?_;rintro e w5 ⟨rfl,hb5⟩;refine oT hK hS hb5 fun hS=>?_
   clear hK K;refine wR 11 fun K hK=>?_
   go_simp;refine oA hK hS fun hS=>?_
   clear hK K;refine wR 12 fun K hK=>?_
   go_simp;refine Xt (RO.o w5 wk JU.o) ?_;rintro e w6 ⟨rfl,hb6⟩;refine hK.o _ _ ((Below.trans (((Qw _ _).drew).trans (hb5.mono (by simp))) (hb6.mono (by have:=hb5.size; simp at this; omega)))) (fun hS=>?_);clear hK K;refine wR 13 fun K hK=>?_
   go_simp;refine hK.o _ _ hS fun hS=>?_
   clear hK K;refine wD ?_
   try simp only[pU]
   have HB:=Zh (aA HC4.o hS);rw[<- HV.o];clear hS hb5 hb6 HV;go_wp2;go_ret;exact⟨rfl,HB.o⟩
  ·subst h;clear HK;go_wp2;refine wH w4 fun hS=>?_
   refine wt 0 (.pointer (some (aD w1.heap.size 5))) hS ?_;refine lH 1 (.int .u64 (lc:Int)) hS t5 ?_;refine wt 2 (.pointer (some (aD w3.heap.size 5))) hS ?_;refine lH 3 (.int .u64 (rc:Int)) hS r5 ?_;refine wt 4 (.pointer (some (aD w.heap.size 0))) hS ?_;refine lH 5 (.int .i64 4) hS t0 ?_;refine wt 6 (.int .u64 (lz:Int)) hS ?_;refine wt 7 (.pointer (some (aD w3.heap.size 4))) hS ?_;refine lH 8 (.int .u64 (rz:Int)) hS r4 ?_;refine wt 9 (.int .u64 (s:Int)) hS ?_;refine wR 10 fun K hK=>?_
   go_simp;refine Xt (HJW.o _) ?_;rintro e w5 ⟨rfl,hb5⟩;refine oT hK hS hb5 fun hS=>?_
   clear hK K;refine wR 11 fun K hK=>?_
   go_simp;refine oA hK hS fun hS=>?_
   clear hK K;refine wR 12 fun K hK=>?_
   go_simp;refine Xt (RO.o w5 wk JU.o) ?_;rintro e w6 ⟨rfl,hb6⟩;refine hK.o _ _ ((Below.trans (((Qw _ _).drew).trans (hb5.mono (by simp))) (hb6.mono (by have:=hb5.size; simp at this; omega)))) (fun hS=>?_);clear hK K;refine wR 13 fun K hK=>?_
   go_simp;refine hK.o _ _ hS fun hS=>?_
   clear hK K;refine wD ?_
   try simp only[pU]
   have HB:=Zh (aA HC4.o hS);rw[<- HV.o];clear hS hb5 hb6 HV;go_wp2;go_ret;exact⟨rfl,HB.o⟩
  ·subst h;clear HK;go_wp2;refine wH w4 fun hS=>?_
   refine wt 0 (.pointer (some (aD w1.heap.size 5))) hS ?_;refine lH 1 (.int .u64 (lc:Int)) hS t5 ?_;refine wt 2 (.pointer (some (aD w3.heap.size 5))) hS ?_;refine lH 3 (.int .u64 (rc:Int)) hS r5 ?_;refine wt 4 (.pointer (some (aD w.heap.size 0))) hS ?_;refine lH 5 (.int .i64 5) hS t0 ?_;refine wt 6 (.int .u64 (lz:Int)) hS ?_;refine wt 7 (.pointer (some (aD w3.heap.size 4))) hS ?_;refine lH 8 (.int .u64 (rz:Int)) hS r4 ?_;refine wt 9 (.int .u64 (s:Int)) hS ?_;refine wR 10 fun K hK=>?_
   go_simp;refine Xt (HJW.o _) ?_;rintro e w5 ⟨rfl,hb5⟩;refine oT hK hS hb5 fun hS=>?_
   clear hK K;refine wR 11 fun K hK=>?_
   go_simp;refine oA hK hS fun hS=>?_
   clear hK K;refine wR 12 fun K hK=>?_
   go_simp;refine Xt (RO.o w5 wk JU.o) ?_;rintro e w6 ⟨rfl,hb6⟩;refine hK.o _ _ ((Below.trans (((Qw _ _).drew).trans (hb5.mono (by simp))) (hb6.mono (by have:=hb5.size; simp at this; omega)))) (fun hS=>?_);clear hK K;refine wR 13 fun K hK=>?_
   go_simp;refine hK.o _ _ hS fun hS=>?_
   clear hK K;refine wD ?_
   try simp only[pU]
   have HB:=Zh (aA HC4.o hS);rw[<- HV.o];clear hS hb5 hb6 HV;go_wp2;go_ret;exact⟨rfl,HB.o⟩
 rw[Qz NT]at HV;have kb3:(k==3)=false:=by simp; omega
 have kb4:(k==4)=false:=by simp; omega
 have kb5:(k==5)=false:=by simp; omega
 by_cases k6:k=6∨k=10
 ·rw[Qy k6]at HV;have HSW:Hid (∀ x,_):=fun x=>Gt lz x hlz
  have JU:Hid (gD lz (lL lz+1)<=bV):=yY _ _;have HS2:Hid (∀ (x:World) (m:Nat),m<=bV->_):=fun x m hm=>af1 x lc m hlc hm
  generalize gD lz (lL lz+1)=wk at *;clear h2' HPr hlz hlc hz NT;have HK:=Zh k6;clear k6;rcases HK.o with h | h
  ·subst h;clear HK;go_wp2;refine wH w3 fun hS=>?_
   refine wt 0 (.pointer (some (aD w1.heap.size 5))) hS ?_;refine lH 1 (.int .u64 (lc:Int)) hS n5 ?_;refine wt 2 (.int .u64 (lz:Int)) hS ?_;refine wR 3 fun K hK=>?_
   go_simp;refine Xt (HSW.o _) ?_;rintro e w5 ⟨rfl,rfl⟩;refine hK.o _ _ hS fun hS=>?_
   clear hK K;refine wR 4 fun K hK=>?_
   go_simp;refine oA hK hS fun hS=>?_
   clear hK K;refine wR 5 fun K hK=>?_
   go_simp;refine Xt (HS2.o w3.drew wk JU.o) ?_;rintro e w6 ⟨rfl,hb6⟩;refine hK.o _ _ ((((Qw _ _).drew).trans (hb6.mono (by simp)))) (fun hS=>?_);clear hK K;refine wR 6 fun K hK=>?_
   go_simp;refine hK.o _ _ hS fun hS=>?_
   clear hK K;refine wD ?_
   try simp only[pU]
   have HB:=Zh (aA ML.o hS);rw[<- HV.o];clear hS hb6 HV;go_wp2;go_ret;exact⟨rfl,HB.o⟩
  ·subst h;clear HK;go_wp2;refine wH w3 fun hS=>?_
   refine wt 0 (.pointer (some (aD w1.heap.size 5))) hS ?_;refine lH 1 (.int .u64 (lc:Int)) hS n5 ?_;refine wt 2 (.int .u64 (lz:Int)) hS ?_;refine wR 3 fun K hK=>?_
   go_simp;refine Xt (HSW.o _) ?_;rintro e w5 ⟨rfl,rfl⟩;refine hK.o _ _ hS fun hS=>?_
   clear hK K;refine wR 4 fun K hK=>?_
   go_simp;refine oA hK hS fun hS=>?_
   clear hK K;refine wR 5 fun K hK=>?_
   go_simp;refine Xt (HS2.o w3.drew wk JU.o) ?_;rintro e w6 ⟨rfl,hb6⟩;refine hK.o _ _ ((((Qw _ _).drew).trans (hb6.mono (by simp)))) (fun hS=>?_);clear hK K;refine wR 6 fun K hK=>?_
   go_simp;refine hK.o _ _ hS fun hS=>?_
   clear hK K;refine wD ?_
   try simp only[pU]
   have HB:=Zh (aA ML.o hS);rw[<- HV.o];clear hS hb6 HV;go_wp2;go_ret;exact⟨rfl,HB.o⟩
 rw[Qz k6]at HV;have kb6:(k==6)=false:=by simp; omega
 have ax1:(k==10)=false:=by simp; omega
 by_cases k7:k=7
 ·rw[Qy k7]at HV;subst k7;have hS3:=af2 w3 lc lz lz hlc hlz hlz;rw[<- HV.o]at hS3;clear h2' HPr hlz hlc hz NT k6 HV;go_wp2_with fail;refine hS3.mono ?_;clear hS3;rintro e w4 ⟨rfl,hb4⟩;have HB:=Zh (aA ML.o hb4);clear hb4;go_wp2;go_ret;exact⟨rfl,HB.o⟩
 rw[Qz k7]at HV;have kb7:(k==7)=false:=by simp; omega
 have hS2:=af1 w3 lc lz hlc hlz;rw[<- HV.o]at hS2;clear h2' HPr hlz hlc hz NT k6 k7 HV;go_wp2_with fail;refine hS2.mono ?_;clear hS2;rintro e w4 ⟨rfl,hb4⟩;have HB:=Zh (aA ML.o hb4);clear hb4;go_wp2;go_ret;exact⟨rfl,HB.o⟩
theorem Fy{n:Nat}(h:s<2 ^ n)(hi:i∈aR s):i<n:=by
 unfold aR at hi;have hb:=(List.mem_filter.1 hi).2;rcases Qq i n with h' | h'
 ·exact h'
 ·have:=Q5 (Q6 h (Q7 (by omega) h'));rw[this]at hb
  cases hb
theorem z8{l:List Int}(h:iW ts q l s=true):gG q.wh.length l:=fun x hx=>by
 unfold iW at h;rw[Qu]at h;have h2:∀ i,i<l.length->(if i=0 then -1 else l.getD (i-1) 0)<l.getD i 0/\l.getD i 0<q.wh.length:=fun i hi=>by
  have:=h i (Xq.2 hi);rw[Qt,Qt,QJ,QJ]at this;exact this.1
 have h3:∀ i,i<l.length->0<=l.getD i 0:=by
  intro i
  induction i with
  | zero => intro hi; have:=(h2 0 hi).1; rw[Qy rfl]at this; omega
  | succ i ih =>
   intro hi;have:=(h2 (i+1) hi).1;rw[Qz (by omega),Nat.add_sub_cancel]at this;have:=ih (by omega);omega
 obtain⟨i,hi,e⟩:=QC hx;have e2:l.getD i 0=x:=by rw[<- e]; simp[List.getD,hi]
 rw[<- e2];exact⟨h3 i hi,(h2 i hi).2⟩
theorem sw(g:Nat->Nat):∀ (l:List Nat) (m:Nat),l.foldl (fun x c=>x / g c) m<=m
 | [],m => Qx _
 | a::l,m => by
  rw[Q0];exact Zl (sw g l _) (Nat.div_le_self _ _)
theorem Ye(ts:List af)(q:ae)(s c:Nat):oC ts q s c<=bV:=by
 unfold oC;have h1:=nO ((aR s).map fun (k:Nat)=>rE ts q.src.xs (k:Int)) 1 (by unfold bV; omega);split
 ·exact Q8 _
 ·have:=sw (fun c=>jE ts q.src.xs (q.wh.getD c lz).cs) (aR c) (((aR s).map fun (k:Nat)=>rE ts q.src.xs (k:Int)).foldl gD 1);rw[Nat.max_def];split
  ·unfold bV; omega
  ·exact Zl this h1
theorem Yf(k:Int)(s lc ls rc rs:Nat):kU k s lc ls rc rs<=bV:=by
 unfold kU
 repeat' split
 all_goals exact xz _
theorem NU{n:ai}{l r:bZ}(hs:eP n i=true)(hf:cZ ts q n l r=true):gG q.wh.length n.cl.xs/\(n.kind=1->0<=n.source/\n.source<q.src.xs.length):=by
 have hm:rW n=true:=by
  unfold eP at hs;simp only[Qt]at hs;exact hs.1.1.2
 have h0:(n.kind=2∨3<=n.kind/\n.kind<=5)∨n.cl.xs=[]:=by
  unfold rW at hm;rw[QJ]at hm;rcases hm.2.2.2.2.1 with h | h | h
  ·exact .inl (.inl h)
  ·exact .inl (.inr h)
  ·exact .inr (Xw.1 h)
 unfold cZ at hf;constructor
 ·rcases h0 with h | h
  ·rw[Qz (by omega)]at hf;by_cases k2:n.kind=2
   ·rw[Qy k2,Qt]at hf;exact z8 hf.2
   rw[Qz k2]at hf;have hj:kg ts q n l.sources r.sources=true:=by
    by_cases k3:n.kind=3
    ·rw[Qy k3]at hf; exact hf
    rw[Qz k3]at hf;by_cases k4:n.kind=4
    ·rw[Qy k4,Qt]at hf; exact hf.2
    rw[Qz k4,Qy (by omega)]at hf;simp only[Qt]at hf;exact hf.1.1.2
   unfold kg at hj;rw[Qt]at hj;exact z8 hj.2
  ·rw[h];exact fun x hx=>by cases hx
 ·intro h1;rw[Qy h1,Qt,QJ,QJ]at hf;exact hf
section
def sD(s k:Nat):List Nat:=(List.range k).filter fun i=>s.testBit i
theorem JZ(s k:Nat):sD s (k+1)=sD s k++if s.testBit k=true then [k] else []:=by
 unfold sD;rw[Q9,List.filter_append]
 cases h:s.testBit k <;> simp[h]
theorem NV(s:Nat){k:Nat}(hk:k<=64):sD s k <+: aR s:=by
 have e:List.range 64=List.range k++(List.range (64-k)).map (k + ·):=by
  rw[<- List.range_add];congr 1;omega
 unfold sD aR;rw[e,List.filter_append];exact List.prefix_append _ _
theorem NW(s:Nat){k:Nat}(hk:k<=64)(h:s / 2 ^ k=0):sD s k=aR s:=by
 symm;refine Gh hk _ (fun i hi=>?_);have h2:s<2 ^ k:=by
  rcases Qq s (2 ^ k) with h' | h'
  ·exact h'
  ·have:=Nat.div_pos h' (Xm (by omega));omega
 exact Q5 (Q6 h2 (Q7 (by omega) hi))
theorem NY(hs:s<18446744073709551616)(h:s / 2 ^ k≠0):k<64:=by
 rcases Qq k 64 with h' | h'
 ·exact h'
 ·exfalso;apply h;apply Nat.div_eq_of_lt;exact Q6 hs (Q7 (n:=2) (by omega) h')
attribute [local go_sem] Oper.semAt_some
theorem qK(s:Nat)(hs:s<18446744073709551616)(w0:World):agc kz Tryz.prog 162 (.int .u64 (s:Int)) (aR s) w0:=by
 intro l J W o hW ho hJ hY h0;have HY:=Zh hY;have HST:Hid _:=@JZ s;have HSP:Hid _:=@NV s;have HSA:Hid _:=@NW s;have HH:Hid (∀ n x,n<64->_):=fun n x hn=>NI s n hs hn x
 have Gy:Hid (∀ k,s / 2 ^ k≠0->k<64):=fun k h=>NY hs h
 have JH:Hid (sD s 0=[]):=rfl;generalize sD s=RT at *;refine(Zu (n:=0)).1 (callsIn_of_wp Tryz.func162 rfl trivial ?_ rfl);simp only[Tryz.ntmps162,Zy,Zg,ZA,Nat.reduceAdd,Nat.reduceSub,ZB,ZC,ZE,ZF,ZG,ZH]
 gi_wp2
 gi_loopw [4] (fun i wr=>∃ k:Nat,k<=64/\i=.int .i64 k/\∃ o1,Hid (J (RT k) o1 wr)/\Hid (Kept (fun b=>¬ o b) W wr)/\Hid (∀ b,o1 b->o b∨(W.heap.size<=b/\b<wr.heap.size)))
  (fun i _=>64-(intOf i).toNat)
 case atStart=>exact⟨0,Q8 _,rfl,o,by rw[JH.o]; exact h0,Zn _ _,fun b h=>.inl h⟩
 case round=>
  obtain⟨k,hk,rfl,o1,hJs,tY,ho1⟩:=hrel;by_cases hz:s / 2 ^ k=0
  ·have HE:=Zh (HSA.o hk hz);have hzb:((s:Int) / 2 ^ k != 0)=false:=by
    have e:((s:Int) / 2 ^ k)=((s / 2 ^ k:Nat):Int):=by simp
    rw[e,hz]; rfl
   gi_wp2
   go_end0;exact⟨⟨_,rfl⟩,aR s,o1,by simp[kz],by rw[<- HE.o]; exact hJs.o,tY.o,ho1.o⟩
  ·have acp:=Gy.o k hz;have hzb:((s:Int) / 2 ^ k != 0)=true:=by
    have e:((s:Int) / 2 ^ k)=((s / 2 ^ k:Nat):Int):=by simp
    rw[e,bne_iff_ne]; omega
   have HT:=Zh (HST.o k);have HP:Hid (RT (k+1) <+: aR s):=HSP.o (by omega);have hH:=HH.o k wr acp
   cases hb:s.testBit k with
   | false =>
    rw[hb]at hH HT
    gi_wp2
    refine⟨trivial,rfl,Zu.2 (hH.mono ?_)⟩;rintro e W3 ⟨rfl,rfl⟩
    gi_wp2
    refine⟨(fun _ h=>by cases h),?_⟩
    gi_wp2
    go_roundw
    case rel=>exact⟨k+1,by omega,by go_num,o1,by have h:RT (k+1)=RT k++[]:=HT.o; rw[h,Xx]; exact hJs.o,tY.o,ho1.o⟩
    case measure=>simp[intOf]; omega
   | true =>
    rw[hb]at hH HT;have HT':Hid (RT (k+1)=RT k++[k]):=HT.o;obtain⟨fn,tmps,assign,body,hy,hR⟩:=HY.o (RT k) k o1 wr hJs.o (by rw[<- HT'.o]; simpa [kz] using HP.o) trivial (fun b h=>by cases h) tY.o.size;have hy':(Instr.yield l #[.int .i64 (k:Int)]).run Tryz.prog wr=.ok (.round l fn tmps assign body) wr:=hy
    gi_wp2
    refine⟨trivial,rfl,Zu.2 (hH.mono ?_)⟩;rintro e W3 ⟨rfl,rfl⟩
    gi_wp2
    refine⟨rfl,hR.mono ?_⟩;rintro e W3 ⟨rfl,o2,hJ3,hk3,hg3⟩;have Bd:=Zh hJ3;have rU:=Zh hk3;have AP:=Zh hg3
    gi_wp2
    go_roundw
    case rel=>
     refine⟨k+1,by omega,by go_num,o2,by rw[HT'.o]; exact Bd.o,tY.o.trans' rU.o ?_,?_⟩
     ·intro b hb h h';rcases ho1.o b h' with h' | h'
      ·exact h h'
      ·omega
     ·intro b hb;have:=rU.o.size;have:=tY.o.size;rcases AP.o b hb with h | h | h
      ·rcases ho1.o b h with h | h
       ·exact .inl h
       ·exact .inr ⟨h.1,by omega⟩
      ·exact .inr ⟨by omega,h.2⟩
      ·cases h.1
    case measure=>simp[intOf]; omega
end
theorem uR(n:Nat)(hn:n<=64)(w:World) :
  Ce 124 #[.int .i64 (n:Int)] w (.int .u64 ((2 ^ n-1:Nat):Int)):=by
 rcases Qq n 64 with h | h
 ·exact JO n h w
 ·obtain rfl:n=64:=by omega
  go_enter Tryz.func124,Tryz.ntmps124;go_wp2;go_ret;exact⟨rfl,rfl⟩
theorem NZ{P:Program}{Q:Exit->Act->World->Prop}{l:Nat}(hd:∀ o∈ops,∀ c,o.op ≠ .defer c){K K':Act->World->Prop}(hK:∀ a w,K a w->K' a w){a:Act}{w:World}(h:wpOpIn Fence.wide 0 P ops Q i K a w):wpOpIn (Fence.wide.inRound l) 0 P ops Q i K' a w:=by
 unfold wpOpIn at *
 cases ho:ops[i]? with
 | none => rw[ho]at h; exact hK _ _ h
 | some o =>
  rw[ho]at h;simp only at *;have hm:=Array.mem_of_getElem? ho;by_cases hw:Region.wanted o (yielded ops a.tmps)=true
  ·rw[Qy hw]at *;unfold Oper.wpIn at *;refine⟨h.1,?_⟩;have h2:=h.2;rw[Oper.semAt_plain Fence.wide _ _ (hd o hm)]at h2;rw[Oper.semAt_plain (Fence.wide.inRound l) _ _ (hd o hm)];generalize Sem.run P (execOp a.eval o) w=r at *;unfold Oper.uponIn at *;split at h2
   ·exact hK _ _ h2
   ·exact hK _ _ h2
   ·exact hK _ _ h2
   ·exact⟨h2.1,h2.2.mono (fun e w' he=>by
     cases e with
     | returned v => exact hK _ _ he
     | panicked c => exact he
     | outgrown => exact he)⟩
   ·exact⟨h2.1,h2.2.mono (fun v w' he=>hK _ _ he)⟩
   ·exact⟨h2.1,h2.2.mono (fun e w' he=>by
     cases e with
     | returned v => exact hK _ _ he
     | panicked c => exact he
     | outgrown => exact he)⟩
   ·exact h2
   ·exact h2.elim
  ·rw[Qz hw]at *;exact⟨h.1,hK _ _ h.2⟩
theorem sF{P:Program}{md:Region.Mode}{ops:Array Oper}{Q:Exit->Act->World->Prop}{l:Nat}(hd:∀ o∈ops,∀ c,o.op ≠ .defer c):∀ (fuel:Nat) (listed:Array Bool) (a:Act) (w:World),
  wpAnyIn Fence.wide 0 P md ops Q fuel listed a w->wpAnyIn (Fence.wide.inRound l) 0 P md ops Q fuel listed a w
 | 0,_,_,_,h => h
 | fuel+1,listed,a,w,h => ⟨h.1,fun i hi => NZ hd (fun a' w' h' => sF hd fuel _ a' w' h') (h.2 i hi)⟩
def Gz(ops:Array Oper):Bool:=ops.all fun o=>match o.op with | .defer _=>false | _=>true
theorem qL(h:Gz ops=true):∀ o∈ops,∀ c,o.op ≠ .defer c:=by
 intro o ho c hc;unfold Gz at h;rw[Array.all_eq_true_iff_forall_mem]at h;have:=h o ho;rw[hc]at this;simp at this
theorem step_append{P:Program}{ops:Array Oper}{o:Oper}{a:Act}{w:World}{K:Act->World->Prop}{Q:Exit->Act->World->Prop}{E:Prop}(hgd:o.guard=none)(s x:Operand)(t:TypeId)
  (ho:o.op=.call { callee:=.builtin .append,args:=#[s,x],argTypes:=#[t,t] }) (v u v':Value) (w':World) (hs:a.eval s=v) (hx:a.eval x=u)
  (hrun:(Builtin.append_ #[t,t] o.type #[v,u]).run P w=.ok v' w') (h:K (a.put o.dst v') w'):if Region.wanted o (yielded ops a.tmps)=true then Oper.wp P o a w K Q else E:=by
 have hw:Region.wanted o (yielded ops a.tmps)=true:=by simp[Region.wanted,hgd]
 rw[Qy hw];unfold Oper.wp;simp[execOp,ho,resolve,invoke,builtin,hs,hx,hrun,Result.andThen];exact h
def Xy:=@step_append
