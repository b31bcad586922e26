import Derived.Test.YtlpbelhfpoilpaaGreatDoorRE07
import Derived.Test.YtlpbelhfpoilpaaGreatDoorRE15
import Derived.Test.YtlpbelhfpoilpaaGreatDoorRE19
import Derived.Test.YtlpbelhfpoilpaaGreatDoorRE20
import Derived.Test.YtlpbelhfpoilpaaGreatDoorRE22
set_option linter.all false
set_option maxRecDepth 100000
set_option maxHeartbeats 16000000
namespace Go.Proofs.Zz
open Go.RowKit Go.Shelf
variable {ps:List az} {p:az} {ts:List af} {q:ae} {pl:List ai} {w:World} {n:ai} {fn:Func} {s u:Tmp} {ty:TypeId}
structure iC(ts:List af)(q:ae)(pl:List ai)(w:World)(ps:List az):Prop where
 eq:gU ts q pl ps.length=some (ps.map az.d)
 ok:∀ i,i<ps.length->(ps.getD i aT).Ok w
 small:∀ i,i<ps.length->(ps.getD i aT).sources<2 ^ q.src.xs.length/\(ps.getD i aT).clauses<2 ^ q.wh.length
theorem iC.nil(ts:List af)(q:ae)(pl:List ai)(w:World):iC ts q pl w []:=⟨rfl,fun i hi=>absurd hi (by simp),fun i hi=>absurd hi (by simp)⟩
theorem L6{i:Nat}(hi:i<(ps++[p]).length):(i<ps.length/\(ps++[p]).getD i aT=ps.getD i aT)∨(i=ps.length/\(ps++[p]).getD i aT=p):=by
 rw[Tc];rw[Zb]at hi;have hi':i<ps.length+1:=hi;by_cases h:i<ps.length
 ·rw[Qy h]; exact .inl ⟨h,rfl⟩
 ·rw[Qz h,Qy (by omega)]; exact .inr ⟨by omega,rfl⟩
theorem Sr(w:World):aT.Ok w:=⟨⟨by simp[aT],fun i hi=>absurd hi (by simp[aT])⟩,Qx _,Q8 _,Q8 _,Q8 _,Q8 _⟩
theorem iC.ins(h:iC ts q pl w ps)(n:ai)(hm:∀ m,m<(aK n).length->0<=(aK n).getD m 0/\(aK n).getD m 0<(ps.length:Int)) :
  ∀ i,i<(dR n ps).length->((dR n ps).getD i aT).Ok w/\((dR n ps).getD i aT).sources<2 ^ q.src.xs.length/\((dR n ps).getD i aT).clauses<2 ^ q.wh.length:=fun i hi=>by
 rw[qj]at hi;have e:(dR n ps).getD i aT=ps.getD ((aK n).getD i 0).toNat aT:=by unfold dR; simp[List.getD,hi]
 have hb:=hm i hi;rw[e];have hlt:((aK n).getD i 0).toNat<ps.length:=by omega
 exact⟨h.ok _ hlt,h.small _ hlt⟩
theorem iC.step(h:iC ts q pl w ps)(hn:pl.getD ps.length nz=n)(hm:∀ m,m<(aK n).length->0<=(aK n).getD m 0/\(aK n).getD m 0<(ps.length:Int))(hf:(kH n.kind (dR n ps)&&cZ ts q n ((dR n ps).getD 0 aT).d ((dR n ps).getD 1 aT).d)=true)
  (hd:p.d=mf ts q n ((dR n ps).getD 0 aT).d ((dR n ps).getD 1 aT).d) (hs:p.sources<2 ^ q.src.xs.length) (hc:p.clauses<2 ^ q.wh.length) {W:World} (hk:p.Ok W) (ho:p.order=n.co∨p.order=((dR n ps).getD 0 aT).order∨p.order=⟨none,0,[]⟩) (hco:n.co.At w) (hcap:n.co.xs.length<=n.co.cap) :
  iC ts q pl w (ps++[p]):=by
 have hpo:p.order.At w/\p.order.xs.length<=p.order.cap:=by
  rcases ho with e | e | e
  ·rw[e]; exact⟨hco,hcap⟩
  ·rw[e];by_cases h0:0<(dR n ps).length
   ·have:=(h.ins n hm 0 h0).1; exact⟨this.order,this.cap⟩
   ·have e0:(dR n ps).getD 0 aT=aT:=by simp[List.getD,h0]
    rw[e0]; exact⟨(Sr w).order,(Sr w).cap⟩
  ·rw[e]; exact⟨⟨by simp,fun i hi=>absurd hi (by simp)⟩,Qx _⟩
 refine⟨?_,fun i hi=>?_,fun i hi=>?_⟩
 ·rw[Zb]
  show (gU ts q pl ps.length).bind _=_
  rw[h.eq,hn]
  show mQ ts q n _=_
  rw[step_eq,Qy hf,Qs,<- hd];rfl
 ·rcases L6 hi with⟨hl,e⟩ | ⟨_,e⟩ <;> rw[e]
  ·exact h.ok i hl
  ·exact⟨hpo.1,hpo.2,hk.sources,hk.clauses,hk.size,hk.cost⟩
 ·rcases L6 hi with⟨hl,e⟩ | ⟨_,e⟩ <;> rw[e]
  ·exact h.small i hl
  ·exact⟨hs,hc⟩
theorem iC.fail(h:iC ts q pl w ps)(hn:pl.getD ps.length nz=n)(hl:ps.length<pl.length)(hp:dK pl=true)(hf:(kH n.kind (dR n ps)&&cZ ts q n ((dR n ps).getD 0 aT).d ((dR n ps).getD 1 aT).d)=false):jS ts q pl=none:=by
 have e:gU ts q pl (ps.length+1)=none:=by
  show (gU ts q pl ps.length).bind _=_
  rw[h.eq,hn]
  show mQ ts q n _=_
  rw[step_eq,Qz (by rw[hf]; simp)]
 unfold jS;rw[Qz (by rw[hp]; simp),Di e pl.length (by omega)];rfl
theorem iC.last(h:iC ts q pl w ps)(hl:ps.length=pl.length)(hp:dK pl=true) :
  jS ts q pl=if (eD (pl.getD (pl.length-1) nz).kind&&jh q (pl.getD (pl.length-1) nz).kind (ps.getD (pl.getD (pl.length-1) nz).l.toNat aT).order.xs)=true then some (ps.map az.d) else none:=by
 unfold jS;rw[Qz (by rw[hp]; simp),<- hl,h.eq];simp only[Option.bind_some];have e:((ps.map az.d).getD (pl.getD (ps.length-1) nz).l.toNat pz)=(ps.getD (pl.getD (ps.length-1) nz).l.toNat aT).d:=tL az.d ps _ aT;rw[e];rfl
theorem iC.nine(h:iC ts q pl w ps)(hl:ps.length=pl.length)(h1:1<=pl.length)(hk:(pl.getD (pl.length-1) nz).kind=9):q.group=false:=by
 have e:ps.length=(pl.length-1)+1:=by omega
 have h2:=h.eq;rw[e]at h2;have h3:(gU ts q pl (pl.length-1)).bind (mQ ts q (pl.getD (pl.length-1) nz))=some (ps.map az.d):=h2
 cases h4:gU ts q pl (pl.length-1) with
 | none => rw[h4]at h3; cases h3
 | some ds =>
  rw[h4]at h3;have h5:mQ ts q (pl.getD (pl.length-1) nz) ds=some (ps.map az.d):=h3;unfold mQ at h5;split at h5
  ·rename_i hf
   rw[Qt]at hf;have hf:=hf.2;unfold cZ at hf;rw[hk]at hf;simp at hf;exact hf.1
  ·cases h5
theorem abd(f:au)(ts:List af)(q:ae)(po:Option Addr)(pc:Nat)(pl:List ai)(w0 w:World)(hb0:Bw w0 w)(ok:Ok ts q)(hf:f.At ts q w)(hn0:kE w0 po pl)(hsh:bQ w 0)(hcap:∀ i,i<pl.length->(pl.getD i nz).co.xs.length<=(pl.getD i nz).co.cap)
  (hgr:q.group=false->bN q.ord.xs q.aV.xs.length=true) (anV:q.ord.xs.length<=1000) :
  Calls Tryz.prog 72 #[.agg (f.cells ts q),.slice po pl.length pc] w (fun e w'=>Bw w w'/\((∃ ds,jS ts q pl=some ds/\∃ (ao:Option Addr) (cap:Nat) (ps:List az),e=.returned (.tuple #[.slice ao ps.length cap,.bool true])/\PartsAt w' ao ps/\ps.map az.d=ds/\(∀ a,ao=some a->w.heap.size<=a.block)/\∀ i,i<ps.length->(ps.getD i aT).Ok w0)∨(jS ts q pl=none/\e=.returned (.tuple #[.slice none 0 0,.bool false])))):=by
 obtain⟨LK,M9⟩:=eY (jS ts q pl)
 rw[<- M9];obtain⟨v0,v1,v2,v3,v4,v5,v6,v7,v8,v9,v10,v11,v12,bB,hv0,hv1,hv2,hv3,hv4,hv5,hv6,-⟩:=Xu f ts q;have HVQ:Hid (q.cells=#[v0,v1,v2,v3,v4,v5,v6]):=by show _=_; rw[hv0,hv1,hv2,hv3,hv4,hv5,hv6]; rfl
 clear hv0 hv1 hv2 hv3 hv4 hv5 hv6;obtain⟨w1,hw1,hk1,hg1⟩:=aU w ((f.cells ts q)) 90;have hc0:=hk1;have iq:=hg1;obtain⟨dJ,dY,dH,dW,dZ,eU,eH,gy,fV,fZ,dz,dE,dA⟩:=iq.k13 (by rw[bB]; rfl);have hn:=hn0.below hb0;have HB0:=Zh hb0;have HN0:=hd hn0;clear hb0 hn0;have hpl:=hn.1;have hIP:=P6 po pc pl w1 (hn.below hc0) (hsh.below hc0);rw[bB]at hw1;rw[bB];have DJ:=Zh bB;have HC:=Zh hc0;clear hg1 iq hk1
 cases hip:dK pl with
 | false =>
  have HV:Hid (LK=none):=by show _=_; rw[M9]; unfold jS; rw[Qy hip]
  rw[hip]at hIP;clear hip M9 hf hn hsh hcap hgr ok DJ;go_enter Tryz.func72,Tryz.ntmps72;go_wp2_with fail;refine hIP.mono ?_;rintro e w2 ⟨rfl,hb2⟩;have HB:=Zh (aA HC.o hb2);clear hb2;go_wp2;go_ret2;exact⟨HB.o,.inr ⟨HV.o,rfl⟩⟩
 | true =>
 rw[hip]at hIP;obtain⟨hp1,aAU,hst⟩:=aa7 hip;obtain⟨i0,hi,hz0,hz1,hz2⟩:=ZU Tryz.J7;have HMK:Hid (∀ x:World,w1.heap.size<=x.heap.size->∃ w',(Instr.makeSlice 91 (.int .i64 0) (.int .i64 (pl.length:Int))).run Tryz.prog x=.ok (.slice (some (aD x.heap.size 0)) 0 pl.length) w'/\w'.ownsRow w1.heap.size 95 6 (.slice (some (aD x.heap.size 0)) 0 pl.length) 0 []/\Bw x w'):=fun x hx=>by
  obtain⟨w',h1,h2,h3⟩:=run_make_own (P:=Tryz.prog) x w1.heap.size 91 95 i0 _ 6 Tryz.underlying91 hi hz0 hz1 .i64 .i64 pl.length (by rw[hz2]; omega) (by unfold maxLen; omega) hx;exact⟨w',h1,h2,(ZM (s:=fun _=>True) h3 (fun r e=>by cases e)).below (Qx _) (fun _ _=>trivial)⟩
 have HIP:=Zh hip;have HST:=Zh hst;have HLK:=Zh M9;have HF:=Zh hf;have HN:Hid _:=hn;have HSH:Hid _:=hsh;have HCAP:=Zh hcap;have qp:=Zh hgr;have AX:=Zh ok;have anX:=Zh anV;have yT:=hd hc0;have pO:=Zh hc0.size;clear hip hst M9 hf hn hsh hcap hgr ok anV bB hc0 hi hz0 hz1 hz2;go_enter Tryz.func72,Tryz.ntmps72;go_wp2_with fail;refine hIP.mono ?_;rintro e w2 ⟨rfl,hb2⟩;clear hIP;obtain⟨w3,hmk,hown3,hb3⟩:=HMK.o w2 hb2.size;have auc:=hd hown3;have HB3:=Zh (aA hb2 hb3);clear hb2 hb3 hown3 HMK hw1;go_wp2;clear hmk;go_loopw [6,21] (fun pv iv wr=>∃ ps:List az,ps.length<=pl.length/\iv=.int .i64 (ps.length:Int)/\Hid (wr.ownsRow w1.heap.size 95 6 pv ps.length (ps.flatMap az.list))/\Hid (iC ts q pl w0 ps)/\Hid (Bw w1 wr)) (fun _ iv _=>pl.length-(intOf iv).toNat)
 case atStart=>exact⟨[],Q8 _,rfl,auc.o,iC.nil _ _ _ _,HB3.o⟩
 case round=>
  obtain⟨ps,hps,rfl,HOW,J9,jV⟩:=hrel;have hbw:=aA yT.o jV.o;obtain⟨pa,pcx,rfl,hPA⟩:=zf HOW.o (by omega) (fun i hi=>(J9.o.ok i hi).below (aA HB0.o hbw));by_cases hlt:ps.length<pl.length
  ·obtain⟨nb,no,hpo,m0,m1,m2,m3,m4,m5,m6,hcl,hco⟩:=(kE.below hbw HN.o).2 ps.length hlt;subst hpo;obtain⟨-,-,-,-,-,-,-,-,-,-,hcl0,aez⟩:=HN.o.2 ps.length hlt;obtain⟨-,-,-,-,-,-,-,-,-,-,-,abe⟩:=HN0.o.2 ps.length hlt;have hcp:=HCAP.o ps.length hlt;have L8:=HST.o ps.length hlt;obtain⟨n,hn⟩:=eX (pl.getD ps.length nz)
   rw[hn]at m0 m1 m2 m3 m4 m5 m6 hcl hco hcl0 aez abe hcp L8;obtain⟨hk1,hk10,hins⟩:=Dj L8;have RZ:Hid (∀ x,Bw w x->Calls Tryz.prog 128 #[.agg n.cells] x fun e w'=>∃ b,e=.returned (.slice (some (aD b 0)) (aK n).length 2)/\aB w' (some (aD b 0)) (aK n)/\x.heap.size<=b/\Bw x w'):=fun x hx=>xM n x (XJ hx HSH.o) hk1 hk10
   have hIO:=J9.o.ins n hins;have V3:Hid (∀ (x:World) (bs:Nat) (v:Value),Bw w x->x.ownsRow bs 95 6 v (dR n ps).length ((dR n ps).flatMap az.list)->∃ a c,v=.slice a (dR n ps).length c/\PartsAt x a (dR n ps)):=fun x _ v hx ho=>zf ho (by rw[qj]; have:=oO n; omega) (fun i hi=>(hIO i hi).1.below (aA HB0.o hx))
   have HKF:Hid (∀ (x:World) (a:Option Addr) (c:Nat),PartsAt x a (dR n ps)->Cb 129 #[.int .i64 n.kind,.slice a (dR n ps).length c] x (.bool (kH n.kind (dR n ps)))):=fun x a c h=>Gv n.kind a c (dR n ps) x h
   have Ut:Hid (∀ (x:World) (a:Option Addr) (c:Nat),Bw w x->PartsAt x a (dR n ps)->Cb 130 #[.agg #[v0,v1,v2,v3,v4,v5,v6,v7,v8,v9,v10,v11,v12],.agg n.cells,.slice a (dR n ps).length c] x (.bool (cZ ts q n ((dR n ps).getD 0 aT).d ((dR n ps).getD 1 aT).d))):=fun x a c hx h=>by
    rw[<- DJ.o];exact abb f ts q n a c (dR n ps) x AX.o (HF.o.below hx) (Qv hx hcl0) (Qv hx aez) hcp h hk1 hk10 (by rw[qj,l9])
   have HPF:Hid (∀ (x:World) (a:Option Addr) (c:Nat),Bw w x->PartsAt x a (dR n ps)->cZ ts q n ((dR n ps).getD 0 aT).d ((dR n ps).getD 1 aT).d=true->kH n.kind (dR n ps)=true->Calls Tryz.prog 131 #[.agg #[v0,v1,v2,v3,v4,v5,v6,v7,v8,v9,v10,v11,v12],.agg n.cells,.slice a (dR n ps).length c] x fun e w'=>∃ p:az,e=.returned (.agg p.cells)/\iC ts q pl w0 (ps++[p])/\Bw x w'):=fun x a c hx h hfi hki=>by
    rw[<- DJ.o];obtain⟨hsm,hsr⟩:=NU L8 hfi;refine(BV f ts q n a c (dR n ps) x AX.o (HF.o.below hx) (Qv hx hcl0) (Qv hx aez) hcp h hk1 hk10 (by rw[qj,l9]) hsm hsr (fun i hi=>(hIO i hi).2)).mono ?_;rintro e w' ⟨p,he,hd,hko,hs,hc,ho,hb⟩;exact⟨p,he,J9.o.step hn hins (by rw[hki,hfi]; rfl) hd hs hc hko ho abe hcp,hb⟩
   have HFA:Hid (∀ kb fb,kb=kH n.kind (dR n ps)->fb=cZ ts q n ((dR n ps).getD 0 aT).d ((dR n ps).getD 1 aT).d->(kb&&fb)=false->LK=none):=fun kb fb e1 e2 h=>by
    rw[HLK.o];exact J9.o.fail hn hlt HIP.o (by rw[<- e1,<- e2]; exact h)
   have HIT:Hid (∀ m,m<(aK n).length->(dR n ps).take (m+1)=(dR n ps).take m++[ps.getD ((aK n).getD m 0).toNat aT]):=fun m hm=>aa8 hm
   have HIL:=Zh (qj n ps);have HL2:=Zh (oO n);have HIB:=Zh hins;obtain⟨KB,hKB⟩:∃ x,x=kH n.kind (dR n ps):=⟨_,rfl⟩
   obtain⟨FB,hFB⟩:∃ x,x=cZ ts q n ((dR n ps).getD 0 aT).d ((dR n ps).getD 1 aT).d:=⟨_,rfl⟩
   have abf:=Zh (HFA.o KB FB hKB hFB);rw[<- hKB]at HKF HPF;rw[<- hFB]at Ut HPF;clear hKB hFB HFA hins hIO L8 hk1 hk10 hcl hco hcl0 aez abe hcp hn;generalize dR n ps=IV at *;generalize aK n=L at *;obtain⟨nk,nl,nr,ns,⟨ca,cc,cl⟩,key,⟨da,dc,co⟩⟩:=n;simp only[ai.cells,ah.val]at *;obtain⟨w9,hw9⟩:∃ x,x=wr:=⟨_,rfl⟩
   subst hw9;obtain⟨wb,hwb,kb,gn⟩:=aU w9 #[.int .i64 nk,.int .i64 nl,.int .i64 nr,.int .i64 ns,.slice ca cl.length cc,.int .i64 key,.slice da co.length dc] 58;obtain⟨n0,n1,n2,n3,n4,n5,n6⟩:=gn.k7;have hIN:=RZ.o wb (aA hbw kb);have Wv:=Zh kb;have wC:=hd gn;have abg:Hid _:=hPA;have HOX:Hid _:=HOW;clear hPA hbw kb gn RZ;go_wp2_with fail;refine hIN.mono ?_;rintro e w4 ⟨ib,rfl,hIA,hib,hb4⟩;clear hIN hwb m0 m1 m2 m3 m4 m5 m6 n0 n1 n2 n3 n4 n5 n6;have mH:=hd hb4;have aug:Hid _:=hIA;have hLl:=hIA.1;clear hb4 hIA hib;go_wp2;go_loopw [9,28] (fun qv jv wx=>∃ m:Nat,m<=L.length/\jv=.int .i64 (m:Int)/\Hid (wx.ownsRow w4.heap.size 95 6 qv (IV.take m).length ((IV.take m).flatMap az.list))/\Hid (Bw w4 wx)) (fun _ jv _=>L.length-(intOf jv).toNat)
   case atStart=>exact⟨0,Q8 _,rfl,ZV _ _ _ _,Qw _ _⟩
   case round=>
    obtain⟨m,hm,rfl,HQ,ou⟩:=hrel;have xI:=aA Wv.o (aA mH.o ou.o);by_cases Pp:m<L.length
    ·obtain⟨ib',io',e',hic⟩:=Qj (Qv ou.o aug.o) Pp
     cases e'
     have hcm:=hic m Pp;rw[QQ]at hcm;obtain⟨hj0,hj1⟩:=HIB.o m Pp;have RY:=Zh (HIT.o m Pp);obtain⟨j,hj⟩:=Xo hj0;rw[hj]at hcm hj1 RY;rw[Zj]at RY;have auh:j<ps.length:=by omega
     obtain⟨⟨pb,pof,ai6,c0,c1,c2,c3,c4,c5⟩,-⟩:=(Xb xI abg.o).2 j auh;subst ai6;obtain⟨p,hp⟩:=eY (ps.getD j aT)
     rw[<- hp]at c0 c1 c2 c3 c4 c5 RY;obtain⟨qa,qm,qc,rfl⟩:=ZP HQ.o;have anZ:=ou.o.size;obtain⟨v',w5,vE,ug,hk5,⟨xa,xm,xc,rfl⟩,hat⟩:=zk wr w4.heap.size (.slice qa qm qc) (IV.take m) HQ.o (by rw[Zm]; have:=HL2.o; omega) anZ p 91;rw[<- RY.o]at ug;have BM:Hid _:=ug;have kF:=Zh (ou.o.trans (hk5.below anZ (fun b hb e=>by have:=(ZO HQ.o e).1; omega)));obtain⟨pk,ss,cs,⟨oa,l7,ox⟩,pz,pt⟩:=p;simp only[az.cells,ah.val]at *;clear hp ug hk5 hat hic hj RY HQ ou xI hj0;go_wp2_with (first | (at_builtin; refine Z8 rfl (.tmp 32) (.tmp 37) 91 rfl (.slice qa qm qc) (.slice (some (aD wr.heap.size 0)) 1 1) (.slice xa xm xc) w5 rfl rfl vE ?_));clear vE c0 c1 c2 c3 c4 c5 hcm;go_wp2;go_roundw
     case rel=>exact⟨m+1,by omega,by go_num,BM.o,kF.o⟩
     case measure=>simp[intOf]; omega
    ·obtain rfl:m=L.length:=by omega
     rw[Xl (by rw[HIL.o]; exact Qx _)]at HQ;obtain⟨w5,uT⟩:∃ x,x=wr:=⟨_,rfl⟩
     subst uT;have aeB:=aA mH.o ou.o;have ai7:=aA Wv.o aeB;have ai8:=aA jV.o ai7;obtain⟨qa,qc,rfl,hQA⟩:=V3.o w5 _ _ (aA yT.o ai8) HQ.o;have hKF:=HKF.o w5 qa qc hQA;have n0:w5.cell? (aD w9.heap.size 0)=some (.int .i64 nk):=cB aeB (QT wC.o 0);have HQA:Hid _:=hQA;have an0:=Zh ai8;have an1:=Zh aeB;have an2:=Zh ai7;clear aeB ai7 ai8 hQA HQ ou V3 HKF HIT HIB hm Pp;go_wp2_with fail;refine hKF.mono ?_;rintro e w6 ⟨rfl,hb6⟩;clear hKF n0;have tN:=Zh (aA an0.o hb6);have Im:=Zh (aA an1.o hb6);have an3:=Zh (aA an2.o hb6);have ai9:Hid _:=Xb hb6 HQA.o;clear hb6 HQA an0 an1 an2
     cases KB with
     | false =>
      have HV:=Zh (abf.o rfl);have jk:=Zh (aA yT.o tN.o);clear Ut HPF abf;go_wp2;go_ret2;exact⟨jk.o,.inr ⟨HV.o,rfl⟩⟩
     | true =>
      have hFI:=Ut.o w6 qa qc (aA yT.o tN.o) ai9.o;have f0:=cB tN.o dJ;have f1:=cB tN.o dY;have f2:=cB tN.o dH;have f3:=cB tN.o dW;have f4:=cB tN.o dZ;have f5:=cB tN.o eU;have f6:=cB tN.o eH;have f7:=cB tN.o gy;have f8:=cB tN.o fV;have f9:=cB tN.o fZ;have f10:=cB tN.o dz;have f11:=cB tN.o dE;have f12:=cB tN.o dA;have n0:w6.cell? (aD w9.heap.size 0)=some (.int .i64 nk):=cB Im.o (QT wC.o 0);have n1:w6.cell? (aD w9.heap.size 1)=some (.int .i64 nl):=cB Im.o (QT wC.o 1);have n2:w6.cell? (aD w9.heap.size 2)=some (.int .i64 nr):=cB Im.o (QT wC.o 2);have n3:w6.cell? (aD w9.heap.size 3)=some (.int .i64 ns):=cB Im.o (QT wC.o 3);have n4:w6.cell? (aD w9.heap.size 4)=some (.slice ca cl.length cc):=cB Im.o (QT wC.o 4);have n5:w6.cell? (aD w9.heap.size 5)=some (.int .i64 key):=cB Im.o (QT wC.o 5);have n6:w6.cell? (aD w9.heap.size 6)=some (.slice da co.length dc):=cB Im.o (QT wC.o 6);go_wp2_with fail;refine hFI.mono ?_;rintro e w7 ⟨rfl,iZ⟩;clear hFI f0 f1 f2 f3 f4 f5 f6 f7 f8 f9 f10 f11 f12 n0 n1 n2 n3 n4 n5 n6;have uL:=Zh (aA tN.o iZ);have P9:=Zh (aA Im.o iZ);have aui:=Zh (aA an3.o iZ);have an4:Hid _:=Xb iZ ai9.o;clear iZ ai9 tN Im an3
      cases FB with
      | false =>
       have HV:=Zh (abf.o rfl);have jk:=Zh (aA yT.o uL.o);clear Ut HPF abf;go_wp2;go_ret2;exact⟨jk.o,.inr ⟨HV.o,rfl⟩⟩
      | true =>
       have hPF:=HPF.o w7 qa qc (aA yT.o uL.o) an4.o (by trivial) (by trivial);have f0:=cB uL.o dJ;have f1:=cB uL.o dY;have f2:=cB uL.o dH;have f3:=cB uL.o dW;have f4:=cB uL.o dZ;have f5:=cB uL.o eU;have f6:=cB uL.o eH;have f7:=cB uL.o gy;have f8:=cB uL.o fV;have f9:=cB uL.o fZ;have f10:=cB uL.o dz;have f11:=cB uL.o dE;have f12:=cB uL.o dA;have n0:w7.cell? (aD w9.heap.size 0)=some (.int .i64 nk):=cB P9.o (QT wC.o 0);have n1:w7.cell? (aD w9.heap.size 1)=some (.int .i64 nl):=cB P9.o (QT wC.o 1);have n2:w7.cell? (aD w9.heap.size 2)=some (.int .i64 nr):=cB P9.o (QT wC.o 2);have n3:w7.cell? (aD w9.heap.size 3)=some (.int .i64 ns):=cB P9.o (QT wC.o 3);have n4:w7.cell? (aD w9.heap.size 4)=some (.slice ca cl.length cc):=cB P9.o (QT wC.o 4);have n5:w7.cell? (aD w9.heap.size 5)=some (.int .i64 key):=cB P9.o (QT wC.o 5);have n6:w7.cell? (aD w9.heap.size 6)=some (.slice da co.length dc):=cB P9.o (QT wC.o 6);clear Ut HPF abf;go_wp2_with fail;refine hPF.mono ?_;rintro e w8 ⟨p,rfl,hPS,Ag⟩;clear hPF f0 f1 f2 f3 f4 f5 f6 f7 f8 f9 f10 f11 f12 n0 n1 n2 n3 n4 n5 n6;have an5:=aA aui.o Ag;have aeC:=aA uL.o Ag;have ho8:=Xh HOX.o an5;obtain⟨v',wz,hrz,hoz,hkz,⟨xa,xm,xc,rfl⟩,hat⟩:=zk w8 w1.heap.size (.slice pa ps.length pcx) ps ho8 (by omega) aeC.size p 91;have HOZ:Hid _:=hoz;have HPS:=Zh hPS;have HBZ:=Zh (aeC.trans (hkz.below aeC.size (fun b hb e=>by have:=(ZO ho8 e).1; omega)));have Be:Hid ((ps++[p]).length=ps.length+1):=by show _=_; simp
       have HCZ:Hid (∀ x:Int,x=((ps++[p]).length:Nat)->Value.int .i64 x=.int .i64 ((ps++[p]).length:Int)):=fun x h=>by rw[h]
       obtain⟨pk,ss,cs,⟨oa,l7,ox⟩,pz,pt⟩:=p;simp only[az.cells,ah.val]at hrz;simp only[az.cells,ah.val];clear hoz hkz hat hPS ho8 an5 aeC Ag HOW J9 jV HOX abg an4;go_wp2_with (first | (at_builtin; refine Z8 rfl (.tmp 52) (.tmp 57) 91 rfl (.slice pa ps.length pcx) (.slice (some (aD w8.heap.size 0)) 1 1) (.slice xa xm xc) wz rfl rfl hrz ?_));clear hrz;go_wp2;go_roundw
       case rel=>
        refine⟨ps++[az.mk pk ss cs ⟨oa,l7,ox⟩ pz pt],by rw[Be.o]; omega,?_,HOZ.o,HPS.o,HBZ.o⟩;rw[Be.o];go_num
       case measure=>simp[intOf]; omega
  ·have hle:ps.length=pl.length:=by omega
   obtain⟨N1,hN1⟩:∃ N1,pl.length=N1+1:=⟨pl.length-1,by omega⟩
   have eN:pl.length-1=N1:=by omega
   have hl1:N1<pl.length:=by omega
   obtain⟨nb,no,hpo,m0,m1,m2,m3,m4,m5,m6,-,-⟩:=(kE.below hbw HN.o).2 N1 hl1;subst hpo;have L8:=HST.o N1 hl1;have hLA:=J9.o.last hle HIP.o;have HNI:Hid ((pl.getD N1 nz).kind=9->q.group=false):=fun h9=>J9.o.nine hle hp1 (by rw[eN]; exact h9)
   rw[<- HLK.o,eN]at hLA;have an6:=Zh J9.o.ok;have aul:=Zh J9.o.ok;have aum:Hid (∀ a,pa=some a->w.heap.size<=a.block):=fun a e=>by subst e; have:=(ZO HOW.o (g:=a.block) rfl).1; have:=pO.o; omega
   obtain⟨n,hn⟩:=eX (pl.getD N1 nz)
   rw[hn]at m0 m1 m2 m3 m4 m5 m6 L8 HNI hLA;have uS:Hid _:=@P8 n N1 L8;obtain⟨w9,hw9⟩:∃ x,x=wr:=⟨_,rfl⟩
   subst hw9;have HOE:Hid (∀ x,Cb 132 #[.int .i64 n.kind] x (.bool (eD n.kind))):=fun x=>(xy n.kind x).mono (fun e w' h=>⟨h.1,by rw[h.2]; exact Qw _ _⟩)
   have HEW:Hid (∀ (o:ah) (x:World),Bw w x->o.At x->o.xs.length<=o.cap->Cb 133 #[.agg #[v0,v1,v2,v3,v4,v5,v6],.int .i64 n.kind,.slice o.ad o.xs.length o.cap] x (.bool (jh q n.kind o.xs))):=fun o x hx ho hoc=>by
    rw[<- HVQ.o];exact xD q n.kind o.ad o.cap o.xs x (HF.o.query.below hx) ⟨fun h9=>qp.o (HNI.o h9),anX.o⟩ ho hoc
   have Gw:=Zh hLA;have HLl:Hid (ps.length=N1+1):=by show _=_; omega
   have hnl:¬ (ps.length:Int)<(N1:Int)+1:=by omega
   have abg:Hid _:=hPA;clear hLA hn L8 eN HNI hPA HST HCAP HSH HF qp HIP anX HVQ hle hps;obtain⟨nk,nl,nr,ns,⟨ca,cc,cl⟩,key,⟨da,dc,co⟩⟩:=n;simp only[ai.cells,ah.val]at *;obtain⟨wb,hwb,kb,gn⟩:=aU w9 #[.int .i64 nk,.int .i64 nl,.int .i64 nr,.int .i64 ns,.slice ca cl.length cc,.int .i64 key,.slice da co.length dc] 58;obtain⟨n0,n1⟩:=gn.k2;have Wv:=hd kb;have HBB:=Zh (aA hbw kb);have L9:=aA jV.o kb;have h0:=cB L9 dJ;have h1:=cB L9 dY;have h2:=cB L9 dH;have h3:=cB L9 dW;have h4:=cB L9 dZ;have h5:=cB L9 eU;have h6:=cB L9 eH;clear gn kb hbw L9;obtain⟨OB,hOB⟩:∃ x,x=eD nk:=⟨_,rfl⟩
   rw[<- hOB]at HOE Gw uS
   cases OB with
   | false =>
    have HV:Hid (LK=none):=by show _=_; rw[Gw.o]; rfl
    clear Gw HEW uS hOB;go_upto_region 18 with fail;clear hwb m0 m1 m2 m3 m4 m5 m6;refine QG (by kernel_rfl) (by kernel_rfl) ?_;refine qS (.pointer (some (aD w9.heap.size 0))) ?_;refine qC (.int .i64 nk) n0 ?_;go_big_quiet_want;refine⟨.bool false,fun x hx=>?_,?_⟩
    ·have hC:=QH hx (HOE.o x);go_simp
    simp only[pU];go_big_quiet_on;refine qS (.bool true) ?_;go_big_quiet_want;refine⟨.bool true,fun x hx=>?_,?_⟩
    ·go_simp
    simp only[pU];go_big_quiet_on;go_big_quiet_skip
    try simp only[pU]
    iterate 11 (go_big_quiet_skip; try simp only[pU])
    refine qS (.bool true) ?_;refine Xv ?_;intro wE mM;have jk:=Zh (aA HBB.o mM);clear mM;go_wp2;go_ret2;exact⟨jk.o,.inr ⟨HV.o,rfl⟩⟩
   | true =>
    obtain⟨hj0,hj1⟩:=uS.o rfl;obtain⟨j,hj⟩:=Xo hj0;subst hj;have hjl:j<ps.length:=by have:=HLl.o; omega
    rw[Zj]at Gw;obtain⟨⟨pb,pof,ai6,-,-,-,c3,-,-⟩,-⟩:=(Xb Wv.o abg.o).2 j hjl;subst ai6;have aja:=an6.o j hjl;obtain⟨o,ho⟩:∃ o,o=(ps.getD j aT).order:=⟨_,rfl⟩
    have hEW:∀ x,Bw wb x->Cb 133 #[.agg #[v0,v1,v2,v3,v4,v5,v6],.int .i64 nk,.slice o.ad o.xs.length o.cap] x (.bool (jh q nk o.xs)):=fun x hx=>HEW.o o x (aA HBB.o hx) (by rw[ho]; exact Qv (aA HB0.o (aA HBB.o hx)) aja.order) (by rw[ho]; exact aja.cap)
    rw[<- ho]at c3 Gw;clear ho aja HEW uS hOB an6;obtain⟨EB,hEB⟩:∃ x,x=jh q nk o.xs:=⟨_,rfl⟩
    rw[<- hEB]at hEW Gw;clear hEB;obtain⟨oa,l7,ox⟩:=o;simp only[ah.val]at c3 hEW;have an7:=Zh hEW;clear hEW
    cases EB with
    | false =>
     have HV:Hid (LK=none):=by show _=_; rw[Gw.o]; rfl
     clear Gw;go_upto_region 18 with fail;clear hwb m0 m1 m2 m3 m4 m5 m6;refine QG (by kernel_rfl) (by kernel_rfl) ?_;refine qS (.pointer (some (aD w9.heap.size 0))) ?_;refine qC (.int .i64 nk) n0 ?_;go_big_quiet_want;refine⟨.bool true,fun x hx=>?_,?_⟩
     ·have hC:=QH hx (HOE.o x);go_simp
     simp only[pU];go_big_quiet_on;refine qS (.bool false) ?_;refine qS (.bool false) ?_;refine qS (.pointer (some (aD w.heap.size 0))) ?_;go_big_quiet_want;refine⟨.agg #[v0,v1,v2,v3,v4,v5,v6],fun x hx=>?_,?_⟩
     ·have e0:=IJ hx h0 h1 h2 h3 h4 h5 h6;go_simp
     simp only[pU];go_big_quiet_on;refine qS (.pointer (some (aD w9.heap.size 0))) ?_;refine qC (.int .i64 nk) n0 ?_;refine qS (.slice (some (aD pb pof)) ps.length pcx) ?_;refine qS (.pointer (some (aD w9.heap.size 1))) ?_;refine qC (.int .i64 (j:Int)) n1 ?_;refine qS (.pointer (some (aD pb (pof+j*6)))) ?_;refine qS (.pointer (some (aD pb (pof+j*6+3)))) ?_;refine qC (.slice oa ox.length l7) c3 ?_;go_big_quiet_want;refine⟨.bool false,fun x hx=>?_,?_⟩
     ·have hC:=QH hx (an7.o x hx);go_simp
     simp only[pU];go_big_quiet_on;refine qS (.bool true) ?_;refine qS (.bool true) ?_;refine Xv ?_;intro wE mM;have jk:=Zh (aA HBB.o mM);clear mM;go_wp2;go_ret2;exact⟨jk.o,.inr ⟨HV.o,rfl⟩⟩
    | true =>
     have HV:Hid (LK=some (ps.map az.d)):=by show _=_; rw[Gw.o]; rfl
     clear Gw;go_upto_region 18 with fail;clear hwb m0 m1 m2 m3 m4 m5 m6;refine QG (by kernel_rfl) (by kernel_rfl) ?_;refine qS (.pointer (some (aD w9.heap.size 0))) ?_;refine qC (.int .i64 nk) n0 ?_;go_big_quiet_want;refine⟨.bool true,fun x hx=>?_,?_⟩
     ·have hC:=QH hx (HOE.o x);go_simp
     simp only[pU];go_big_quiet_on;refine qS (.bool false) ?_;refine qS (.bool false) ?_;refine qS (.pointer (some (aD w.heap.size 0))) ?_;go_big_quiet_want;refine⟨.agg #[v0,v1,v2,v3,v4,v5,v6],fun x hx=>?_,?_⟩
     ·have e0:=IJ hx h0 h1 h2 h3 h4 h5 h6;go_simp
     simp only[pU];go_big_quiet_on;refine qS (.pointer (some (aD w9.heap.size 0))) ?_;refine qC (.int .i64 nk) n0 ?_;refine qS (.slice (some (aD pb pof)) ps.length pcx) ?_;refine qS (.pointer (some (aD w9.heap.size 1))) ?_;refine qC (.int .i64 (j:Int)) n1 ?_;refine qS (.pointer (some (aD pb (pof+j*6)))) ?_;refine qS (.pointer (some (aD pb (pof+j*6+3)))) ?_;refine qC (.slice oa ox.length l7) c3 ?_;go_big_quiet_want;refine⟨.bool true,fun x hx=>?_,?_⟩
     ·have hC:=QH hx (an7.o x hx);go_simp
     simp only[pU];go_big_quiet_on;refine qS (.bool false) ?_;refine qS (.bool false) ?_;refine Xv ?_;intro wE mM;have jk:=Zh (aA HBB.o mM);have HPE:Hid _:=Xb (aA Wv.o mM) abg.o;clear mM;go_wp2;go_ret2;exact⟨jk.o,.inl ⟨_,HV.o,_,pcx,ps,rfl,HPE.o,rfl,aum.o,aul.o⟩⟩
theorem EM{p:Tmp}(h:fn.results=#[.cell p ty,.tmp u,.tmp s])(tmps:Array Value)(P:Program)(w:World) :
  (results fn tmps).run P w=((asAddr (tmps.getD p undef)).run P w).andThen fun a w₁=>((loadVar ty a).run P w₁).andThen fun v w₂=>.ok (.tuple #[v,tmps.getD u undef,tmps.getD s undef]) w₂:=by
 simp only[results,h];simp[Sem.run_bind,Result.andThen]
theorem zQ{p:Tmp}(h:fn.results=#[.cell p ty,.tmp u,.tmp s]){tmps:Array Value}{P:Program}{B:Nat}{v x y:Value}(hp:tmps.getD p undef=.pointer (some (aD B 0)))(hu:tmps.getD u undef=x)(hs:tmps.getD s undef=y)(hl:(loadVar ty (aD B 0)).run P w=.ok v w) :
  (results fn tmps).run P w=.ok (.tuple #[v,x,y]) w:=by
 rw[EM h,hp,hu,hs];simp[go_sem]at hl ⊢;simp[hl]
def yI(IW:Int)(LK:Option (List bZ))(ts:List af)(q:ae)(w:World)(e:Ending)(w':World):Prop:=Bw w w'/\((IW≠0/\e=.returned (.tuple #[.agg #[.slice none 0 0,.slice none 0 0,.bool false,.slice none 0 0,.slice none 0 0,.slice none 0 0,.slice none 0 0,.slice none 0 0,.int .u64 0,.int .u64 0,.slice none 0 0,.slice none 0 0,.slice none 0 0],.slice none 0 0,.int .i64 IW]))∨(IW=0/\LK=none/\e=.returned (.tuple #[.agg #[.slice none 0 0,.slice none 0 0,.bool false,.slice none 0 0,.slice none 0 0,.slice none 0 0,.slice none 0 0,.slice none 0 0,.int .u64 0,.int .u64 0,.slice none 0 0,.slice none 0 0,.slice none 0 0],.slice none 0 0,.int .i64 5]))∨(IW=0/\∃ ds,LK=some ds/\∃ (f:au) (a:Option Addr) (c:Nat) (ps:List az),e=.returned (.tuple #[.agg (f.cells ts q),.slice a ps.length c,.int .i64 0])/\f.At ts q w'/\PartsAt w' a ps/\ps.map az.d=ds))
theorem ES(ao:Option Addr)(cap:Nat)(ts:List af)(q:ae)(po:Option Addr)(pc:Nat)(pl:List ai)(w:World)(hx:aZ w ao ts)(hq:q.At w)(hkc:q.keys.xs.length<=q.keys.cap)(hoc:q.ord.xs.length<=q.ord.cap)(hn:kE w po pl)(hsh:bQ w 0)(hcap:∀ i,i<pl.length->(pl.getD i nz).co.xs.length<=(pl.getD i nz).co.cap) :
  Calls Tryz.prog 36 #[.slice ao ts.length cap,.agg q.cells,.slice po pl.length pc] w (yI (q.check ts) (jS ts q pl) ts q w):=by
 obtain⟨w1,hw1,hk1,hg1⟩:=aU w q.cells 26;obtain⟨w2,hw2,hk2,hg2⟩:=aU w1 #[.slice none 0 0,.slice none 0 0,.bool false,.slice none 0 0,.slice none 0 0,.slice none 0 0,.slice none 0 0,.slice none 0 0,.int .u64 0,.int .u64 0,.slice none 0 0,.slice none 0 0,.slice none 0 0] 90;have hc1:=hk2;have hc0:=aA hk1 hc1;have iq:=hg1.of (hc1.block _ hg1.lt);obtain⟨dJ,dY,dH,dW,dZ,eU,eH⟩:=iq.k7;have kI:=hg2;have hCH:=wI ao cap ts q w2 (hx.below hc0) (hq.below hc0) hkc hoc;obtain⟨IW,ET⟩:∃ c,c=q.check ts:=⟨_,rfl⟩
 obtain⟨LK,M9⟩:∃ c,c=jS ts q pl:=⟨_,rfl⟩
 have HFO:Hid (IW=0->∀ x,Bw w x->Calls Tryz.prog 71 #[.slice ao ts.length cap,.agg q.cells] x fun e w'=>∃ f:au,e=.returned (.agg (f.cells ts q))/\f.At ts q w'/\f.New x.heap.size/\Bw x w'):=fun h0 x hb=>Am ao cap ts q x (hx.below hb) (hq.below hb) (zu (by rw[<- ET]; exact h0)).1.ok
 have uB:Hid (IW=0->∀ (f:au) (x:World),Bw w x->f.At ts q x->Calls Tryz.prog 72 #[.agg (f.cells ts q),.slice po pl.length pc] x (fun e w'=>Bw x w'/\((∃ ds,LK=some ds/\∃ (ao:Option Addr) (cap:Nat) (ps:List az),e=.returned (.tuple #[.slice ao ps.length cap,.bool true])/\PartsAt w' ao ps/\ps.map az.d=ds/\(∀ a,ao=some a->x.heap.size<=a.block)/\∀ i,i<ps.length->(ps.getD i aT).Ok w)∨(LK=none/\e=.returned (.tuple #[.slice none 0 0,.bool false]))))):=fun h0 f x hb hf=>by
  obtain⟨h1,_,h3,h4,_⟩:=zu (ts:=ts) (q:=q) (by rw[<- ET]; exact h0);rw[M9];exact abd f ts q po pc pl w x hb h1.ok hf hn (XJ hb hsh) hcap h3 (by omega)
 rw[<- ET]at hCH ⊢;rw[<- M9];have HC:=Zh hc0;have HQ0:=Zh hq;have HW:=Zh hk1.size;have qp:=hd kI;clear ET M9 hx hq hkc hoc hn hsh hcap hk1 hk2 hg1 hg2 iq kI hc0 hc1;obtain⟨⟨sa,sc,src⟩,bY,aI,wh,group,⟨ka,kc,keys⟩,⟨ua,uc,sums⟩,⟨ea,ec,aV⟩,⟨da,dc,ord⟩⟩:=q;have uW:ae.cells ⟨⟨sa,sc,src⟩,bY,aI,wh,group,⟨ka,kc,keys⟩,⟨ua,uc,sums⟩,⟨ea,ec,aV⟩,⟨da,dc,ord⟩⟩=#[.slice sa src.length sc,.slice bY wh.length aI,.bool group,.slice ka keys.length kc,.slice ua sums.length uc,.slice ea aV.length ec,.slice da ord.length dc]:=rfl;rw[uW]at hw1 hCH HFO ⊢;simp only[ah.val]at dJ dY dH dW dZ eU eH;clear uW;go_enter Tryz.func36,Tryz.ntmps36;go_wp2_with fail;refine hCH.mono ?_;rintro e w3 ⟨rfl,hb3⟩;clear hCH hw1 hw2;by_cases hz:IW=0
 ·subst hz;have hFO:=HFO.o (by trivial) w3 (aA HC.o hb3);have d0:=cB hb3 dJ;have d1:=cB hb3 dY;have d2:=cB hb3 dH;have d3:=cB hb3 dW;have d4:=cB hb3 dZ;have d5:=cB hb3 eU;have d6:=cB hb3 eH;have HB3:=hd hb3;clear hb3 dJ dY dH dW dZ eU eH HFO;go_wp2_with fail;refine hFO.mono ?_;rintro e w4 ⟨f,rfl,hf,hnw,hb4⟩;clear hFO d0 d1 d2 d3 d4 d5 d6;have mH:=Zh (aA HB3.o hb4);have auo:=Zh hb4.size;have HF4:=hd hf;have HNW:=hd hnw;have HR3:=Zh (Q6 qp.o.lt HB3.o.size);clear hnw;obtain⟨V5,fcl,V6,S,C,V7,frl,V8,V9,Wd,We,Wh,Wi,Wj,bB⟩:∃ (V5:Option Addr) (fcl V6 S C:Nat) (V7:Option Addr) (frl V8:Nat) (V9:Option Addr) (Wd We:Nat) (Wh:Option Addr) (Wi Wj:Nat),f.cells ts ⟨⟨sa,sc,src⟩,bY,aI,wh,group,⟨ka,kc,keys⟩,⟨ua,uc,sums⟩,⟨ea,ec,aV⟩,⟨da,dc,ord⟩⟩=#[.slice sa src.length sc,.slice bY wh.length aI,.bool group,.slice ka keys.length kc,.slice ua sums.length uc,.slice ea aV.length ec,.slice da ord.length dc,.slice V5 fcl V6,.int .u64 ((S:Nat):Int),.int .u64 ((C:Nat):Int),.slice V7 frl V8,.slice V9 Wd We,.slice Wh Wi Wj]:=⟨f.ca,_,f.cc,_,_,f.ra,_,f.rc,f.na,f.nl,f.nc,f.pa,f.pl,f.pc,rfl⟩
  obtain⟨w5,uT,k5,g5⟩:=aU w4 #[.slice sa src.length sc,.slice bY wh.length aI,.bool group,.slice ka keys.length kc,.slice ua sums.length uc,.slice ea aV.length ec,.slice da ord.length dc,.slice V5 fcl V6,.int .u64 ((S:Nat):Int),.int .u64 ((C:Nat):Int),.slice V7 frl V8,.slice V9 Wd We,.slice Wh Wi Wj] 90;have kF:=Zh (aA mH.o k5);have hLO:=uB.o (by trivial) f w5 (aA HC.o kF.o) (HF4.o.below k5);rw[bB]at hLO ⊢;have DJ:=Zh bB;have FW:=hd g5;have HK5:=Zh k5;obtain⟨p0,p1,p2,p3,p4,p5,p6,p7,p8,p9,p10,p11,p12⟩:=g5.k13;clear hb4 hf k5 g5 bB uB;go_wp2_with fail;refine hLO.mono ?_;rintro e w6 ⟨hb6,hres⟩;clear hLO uT;have yG:=aA kF.o hb6;have g6:=FW.o.of (hb6.block _ FW.o.lt);rcases hres with⟨ds,hds,a,c,ps,rfl,hPA,yQ,hbk,an8⟩ | ⟨hds,rfl⟩
  ·skip;have gR:=qp.o.of (yG.block _ qp.o.lt);have ui:=Zh (uA (World.yw gR (.slice sa src.length sc) (.slice bY wh.length aI) (.bool group) (.slice ka keys.length kc) (.slice ua sums.length uc) (.slice ea aV.length ec) (.slice da ord.length dc) (.slice V5 fcl V6) (.int .u64 ((S:Nat):Int)) (.int .u64 ((C:Nat):Int)) (.slice V7 frl V8) (.slice V9 Wd We) (.slice Wh Wi Wj)));have hkR:=World.rq w6 w1.heap.size (.slice sa src.length sc) (.slice bY wh.length aI) (.bool group) (.slice ka keys.length kc) (.slice ua sums.length uc) (.slice ea aV.length ec) (.slice da ord.length dc) (.slice V5 fcl V6) (.int .u64 ((S:Nat):Int)) (.int .u64 ((C:Nat):Int)) (.slice V7 frl V8) (.slice V9 Wd We) (.slice Wh Wi Wj);have DI:=(aA HC.o yG).trans (hkR.below (aA HC.o yG).size (fun b hb=>by have:=HW.o; omega));have x0:=gR.at 0;have y0:=gR.frozen 0;have x1:=gR.at 1;have y1:=gR.frozen 1;have x2:=gR.at 2;have y2:=gR.frozen 2;have x3:=gR.at 3;have y3:=gR.frozen 3;have x4:=gR.at 4;have y4:=gR.frozen 4;have x5:=gR.at 5;have y5:=gR.frozen 5;have x6:=gR.at 6;have y6:=gR.frozen 6;have x7:=gR.at 7;have y7:=gR.frozen 7;have x8:=gR.at 8;have y8:=gR.frozen 8;have x9:=gR.at 9;have y9:=gR.frozen 9;have x10:=gR.at 10;have y10:=gR.frozen 10;have x11:=gR.at 11;have y11:=gR.frozen 11;have x12:=gR.at 12;have y12:=gR.frozen 12;have hF6:=(HF4.o.below (aA HK5.o hb6)).but hkR HNW.o HR3.o (HQ0.o.below DI);have h45:=Zl auo.o HK5.o.size;have hP6:=hPA.but hkR (fun ad e=>by have:=hbk ad e; have:=HR3.o; omega) an8 DI;have gz:Hid (yI (0:Int) LK ts ⟨⟨sa,sc,src⟩,bY,aI,wh,group,⟨ka,kc,keys⟩,⟨ua,uc,sums⟩,⟨ea,ec,aV⟩,⟨da,dc,ord⟩⟩ w (.returned (.tuple #[.agg #[.slice sa src.length sc,.slice bY wh.length aI,.bool group,.slice ka keys.length kc,.slice ua sums.length uc,.slice ea aV.length ec,.slice da ord.length dc,.slice V5 fcl V6,.int .u64 ((S:Nat):Int),.int .u64 ((C:Nat):Int),.slice V7 frl V8,.slice V9 Wd We,.slice Wh Wi Wj],.slice a ps.length c,.int .i64 0])) (World.mr w6 w1.heap.size (.slice sa src.length sc) (.slice bY wh.length aI) (.bool group) (.slice ka keys.length kc) (.slice ua sums.length uc) (.slice ea aV.length ec) (.slice da ord.length dc) (.slice V5 fcl V6) (.int .u64 ((S:Nat):Int)) (.int .u64 ((C:Nat):Int)) (.slice V7 frl V8) (.slice V9 Wd We) (.slice Wh Wi Wj))):=⟨DI,.inr (.inr ⟨rfl,ds,hds,f,a,c,ps,by rw[DJ.o],hF6,hP6,yQ⟩)⟩
   unfold World.mr at ui gz;obtain⟨r0,r1,r2,r3,r4,r5,r6,r7,r8,r9,r10,r11,r12⟩:=g6.k13;clear gR hkR DI yG hb6 g6 FW HF4 hF6 hP6 hPA hbk an8 hds yQ;go_wp2;exact XE (zQ (p:=6) (u:=7) (s:=8) rfl rfl rfl rfl ui.o) rfl gz.o
  ·skip;have gR:=qp.o.of (yG.block _ qp.o.lt);have ui:=Zh (uA (World.yw gR (.slice none 0 0) (.slice none 0 0) (.bool false) (.slice none 0 0) (.slice none 0 0) (.slice none 0 0) (.slice none 0 0) (.slice none 0 0) (.int .u64 0) (.int .u64 0) (.slice none 0 0) (.slice none 0 0) (.slice none 0 0)));have hkR:=World.rq w6 w1.heap.size (.slice none 0 0) (.slice none 0 0) (.bool false) (.slice none 0 0) (.slice none 0 0) (.slice none 0 0) (.slice none 0 0) (.slice none 0 0) (.int .u64 0) (.int .u64 0) (.slice none 0 0) (.slice none 0 0) (.slice none 0 0);have DI:=(aA HC.o yG).trans (hkR.below (aA HC.o yG).size (fun b hb=>by have:=HW.o; omega));have x0:=gR.at 0;have y0:=gR.frozen 0;have x1:=gR.at 1;have y1:=gR.frozen 1;have x2:=gR.at 2;have y2:=gR.frozen 2;have x3:=gR.at 3;have y3:=gR.frozen 3;have x4:=gR.at 4;have y4:=gR.frozen 4;have x5:=gR.at 5;have y5:=gR.frozen 5;have x6:=gR.at 6;have y6:=gR.frozen 6;have x7:=gR.at 7;have y7:=gR.frozen 7;have x8:=gR.at 8;have y8:=gR.frozen 8;have x9:=gR.at 9;have y9:=gR.frozen 9;have x10:=gR.at 10;have y10:=gR.frozen 10;have x11:=gR.at 11;have y11:=gR.frozen 11;have x12:=gR.at 12;have y12:=gR.frozen 12;have gz:Hid (yI (0:Int) LK ts ⟨⟨sa,sc,src⟩,bY,aI,wh,group,⟨ka,kc,keys⟩,⟨ua,uc,sums⟩,⟨ea,ec,aV⟩,⟨da,dc,ord⟩⟩ w (.returned (.tuple #[.agg #[.slice none 0 0,.slice none 0 0,.bool false,.slice none 0 0,.slice none 0 0,.slice none 0 0,.slice none 0 0,.slice none 0 0,.int .u64 0,.int .u64 0,.slice none 0 0,.slice none 0 0,.slice none 0 0],.slice none 0 0,.int .i64 5])) (World.mr w6 w1.heap.size (.slice none 0 0) (.slice none 0 0) (.bool false) (.slice none 0 0) (.slice none 0 0) (.slice none 0 0) (.slice none 0 0) (.slice none 0 0) (.int .u64 0) (.int .u64 0) (.slice none 0 0) (.slice none 0 0) (.slice none 0 0))):=⟨DI,.inr (.inl ⟨rfl,hds,rfl⟩)⟩
   unfold World.mr at ui gz;clear gR hkR DI yG hb6 g6 FW HF4;go_wp2;exact XE (zQ (p:=6) (u:=7) (s:=8) rfl rfl rfl rfl ui.o) rfl gz.o
 ·have Dh:=hb3;have hzb:(IW != 0)=true:=by rw[bne_iff_ne]; exact hz
  have HZ:Hid _:=hz;clear hz;have gR:=qp.o.of (Dh.block _ qp.o.lt);have ui:=Zh (uA (World.yw gR (.slice none 0 0) (.slice none 0 0) (.bool false) (.slice none 0 0) (.slice none 0 0) (.slice none 0 0) (.slice none 0 0) (.slice none 0 0) (.int .u64 0) (.int .u64 0) (.slice none 0 0) (.slice none 0 0) (.slice none 0 0)));have hkR:=World.rq w3 w1.heap.size (.slice none 0 0) (.slice none 0 0) (.bool false) (.slice none 0 0) (.slice none 0 0) (.slice none 0 0) (.slice none 0 0) (.slice none 0 0) (.int .u64 0) (.int .u64 0) (.slice none 0 0) (.slice none 0 0) (.slice none 0 0);have DI:=(aA HC.o Dh).trans (hkR.below (aA HC.o Dh).size (fun b hb=>by have:=HW.o; omega));have x0:=gR.at 0;have y0:=gR.frozen 0;have x1:=gR.at 1;have y1:=gR.frozen 1;have x2:=gR.at 2;have y2:=gR.frozen 2;have x3:=gR.at 3;have y3:=gR.frozen 3;have x4:=gR.at 4;have y4:=gR.frozen 4;have x5:=gR.at 5;have y5:=gR.frozen 5;have x6:=gR.at 6;have y6:=gR.frozen 6;have x7:=gR.at 7;have y7:=gR.frozen 7;have x8:=gR.at 8;have y8:=gR.frozen 8;have x9:=gR.at 9;have y9:=gR.frozen 9;have x10:=gR.at 10;have y10:=gR.frozen 10;have x11:=gR.at 11;have y11:=gR.frozen 11;have x12:=gR.at 12;have y12:=gR.frozen 12;have gz:Hid (yI IW LK ts ⟨⟨sa,sc,src⟩,bY,aI,wh,group,⟨ka,kc,keys⟩,⟨ua,uc,sums⟩,⟨ea,ec,aV⟩,⟨da,dc,ord⟩⟩ w (.returned (.tuple #[.agg #[.slice none 0 0,.slice none 0 0,.bool false,.slice none 0 0,.slice none 0 0,.slice none 0 0,.slice none 0 0,.slice none 0 0,.int .u64 0,.int .u64 0,.slice none 0 0,.slice none 0 0,.slice none 0 0],.slice none 0 0,.int .i64 IW])) (World.mr w3 w1.heap.size (.slice none 0 0) (.slice none 0 0) (.bool false) (.slice none 0 0) (.slice none 0 0) (.slice none 0 0) (.slice none 0 0) (.slice none 0 0) (.int .u64 0) (.int .u64 0) (.slice none 0 0) (.slice none 0 0) (.slice none 0 0))):=⟨DI,.inl ⟨HZ.o,rfl⟩⟩
  unfold World.mr at ui gz;clear gR hkR DI Dh hb3 HFO uB;go_wp2;exact XE (zQ (p:=6) (u:=7) (s:=8) rfl rfl rfl rfl ui.o) rfl gz.o
def Su(ts:List af)(q:ae)(pl:List ai):Int:=if q.check ts=0 then (if (jS ts q pl).isSome=true then 0 else 5) else q.check ts
def Mc:Option (List bZ)->Nat
 | some ds => (ds.getD (ds.length-1) pz).cost
 | none => 0
def Bl(ts:List af)(q:ae)(pl:List ai):Nat:=if q.check ts=0 then Mc (jS ts q pl) else 0
theorem Dl{ts:List af}{q:ae}{pl:List ai}:∀ (k:Nat) (ps:List bZ),gU ts q pl k=some ps->ps.length=k
 | 0,ps,h => by
  injection h with h;rw[<- h];rfl
 | k+1,ps,h => by
  have h':(gU ts q pl k).bind (mQ ts q (pl.getD k nz))=some ps:=h
  cases hp:gU ts q pl k with
  | none => rw[hp]at h'; cases h'
  | some qs =>
   rw[hp]at h';have h2:mQ ts q (pl.getD k nz) qs=some ps:=h';unfold mQ at h2;split at h2
   ·injection h2 with h2;rw[<- h2,Zb,Dl k qs hp];rfl
   ·cases h2
theorem VG{ds:List bZ}(h:jS ts q pl=some ds):1<=ds.length:=by
 unfold jS at h;split at h
 ·cases h
 ·rename_i hp
  cases hq:gU ts q pl pl.length with
  | none => rw[hq]at h; cases h
  | some ps =>
   rw[hq]at h;have h2:(if (eD (pl.getD (pl.length-1) nz).kind&&jh q (pl.getD (pl.length-1) nz).kind (ps.getD (pl.getD (pl.length-1) nz).l.toNat pz).order)=true then some ps else none)=some ds:=h;split at h2
   ·injection h2 with h2;rw[<- h2,Dl _ _ hq];have hp':dK pl=true:=by simpa using hp
    unfold dK at hp';simp only[Qt,QJ]at hp';exact hp'.1.1.1
   ·cases h2
theorem EU(ao:Option Addr)(cap:Nat)(ts:List af)(q:ae)(po:Option Addr)(pc:Nat)(pl:List ai)(w:World)(hx:aZ w ao ts)(hq:q.At w)(hkc:q.keys.xs.length<=q.keys.cap)(hoc:q.ord.xs.length<=q.ord.cap)(hn:kE w po pl)(hsh:bQ w 0)(hcap:∀ i,i<pl.length->(pl.getD i nz).co.xs.length<=(pl.getD i nz).co.cap) :
  Cb 12 #[.slice ao ts.length cap,.agg q.cells,.slice po pl.length pc] w (.tuple #[.int .u64 ((Bl ts q pl:Nat):Int),.int .i64 (Su ts q pl)]):=by
 obtain⟨w1,hw1,hk1,hg1⟩:=aU w q.cells 26;have hc0:=hk1;have iq:=hg1;obtain⟨dJ,dY,dH,dW,dZ,eU,eH⟩:=iq.k7;have hLO:=ES ao cap ts q po pc pl w1 (hx.below hc0) (hq.below hc0) hkc hoc (hn.below hc0) (XJ hc0 hsh) hcap;obtain⟨IW,ET⟩:∃ c,c=q.check ts:=⟨_,rfl⟩
 obtain⟨LK,M9⟩:∃ c,c=jS ts q pl:=⟨_,rfl⟩
 rw[<- ET,<- M9]at hLO;have HC:=Zh hc0;have ais:=Zh ET;have HLK:=Zh M9;obtain⟨FN0,hFN⟩:∃ c,c=Su ts q pl:=⟨_,rfl⟩
 obtain⟨CN0,Yb⟩:∃ c,c=Bl ts q pl:=⟨_,rfl⟩
 rw[<- hFN,<- Yb];have sG:Hid (FN0=if IW=0 then (if LK.isSome=true then 0 else 5) else IW):=by show _=_; rw[hFN,ET,M9]; rfl
 have JV:Hid (CN0=if IW=0 then Mc LK else 0):=by show _=_; rw[Yb,ET,M9]; rfl
 have wX:Hid (IW=0->∀ ds,LK=some ds->1<=ds.length):=fun _ ds hds=>VG (ts:=ts) (q:=q) (pl:=pl) (by rw[<- M9]; exact hds)
 clear hFN Yb;clear ET M9 hx hq hkc hoc hn hsh hcap hk1 hg1 iq hc0;obtain⟨⟨sa,sc,src⟩,bY,aI,wh,group,⟨ka,kc,keys⟩,⟨ua,uc,sums⟩,⟨ea,ec,aV⟩,⟨da,dc,ord⟩⟩:=q;have uW:ae.cells ⟨⟨sa,sc,src⟩,bY,aI,wh,group,⟨ka,kc,keys⟩,⟨ua,uc,sums⟩,⟨ea,ec,aV⟩,⟨da,dc,ord⟩⟩=#[.slice sa src.length sc,.slice bY wh.length aI,.bool group,.slice ka keys.length kc,.slice ua sums.length uc,.slice ea aV.length ec,.slice da ord.length dc]:=rfl;rw[uW]at hw1 hLO ⊢;simp only[ah.val]at dJ dY dH dW dZ eU eH;clear uW;go_enter Tryz.func12,Tryz.ntmps12;go_wp2_with fail;refine hLO.mono ?_;rintro e w2 ⟨hb2,hres⟩;have HB:=Zh (aA HC.o hb2);have HB2:Hid (∀ o,Bw w (w2.alloc o)):=fun o=>HB.o.trans ((dn _ _).mono HB.o.size)
 clear hb2 hLO hw1 dJ dY dH dW dZ eU eH;rcases hres with⟨hc,rfl⟩ | ⟨hc,hl,rfl⟩ | ⟨hc,ds,hl,f,a,c,ps,rfl,hf,hp,hd⟩
 ·have HV:Hid (FN0=IW):=by show _=_; rw[sG.o,Qz hc]
  have HU:Hid (CN0=0):=by show _=_; rw[JV.o,Qz hc]
  have hzb:(IW != 0)=true:=by rw[bne_iff_ne]; exact hc
  clear sG hc JV wX;go_wp2;go_ret2;exact⟨by rw[HV.o,HU.o]; rfl,HB2.o _⟩
 ·have HV:Hid (FN0=5):=by show _=_; rw[sG.o,Qy hc,hl]; rfl
  have HU:Hid (CN0=0):=by show _=_; rw[JV.o,Qy hc,hl]; rfl
  clear sG hc hl JV wX;go_wp2;go_ret2;exact⟨by rw[HV.o,HU.o]; rfl,HB2.o _⟩
 ·have HV:Hid (FN0=0):=by show _=_; rw[sG.o,Qy hc,hl]; rfl
  have HU:Hid (CN0=(ps.getD (ps.length-1) aT).cost):=by
   show _=_
   rw[JV.o,Qy hc,hl,<- hd]
   show ((ps.map az.d).getD ((ps.map az.d).length-1) pz).cost=_
   rw[Zc];exact congrArg bZ.cost (tL az.d ps (ps.length-1) aT)
  have hl1:1<=ps.length:=by have:=wX.o hc ds hl; rw[<- hd,Zc]at this; exact this
  obtain⟨N1,hN1⟩:∃ N1,ps.length=N1+1:=⟨ps.length-1,by omega⟩
  rw[show ps.length-1=N1 by omega]at HU;obtain⟨⟨pb,pof,rfl,-,-,-,-,-,c5⟩,-⟩:=hp.2 N1 (by omega);have hpw:=hp.1;have c5':=Zh c5;generalize (ps.getD N1 aT).cost=CT at *;rw[hN1]at hpw ⊢;clear sG hc hl hf hp hd JV wX hl1 hN1;obtain⟨V5,fcl,V6,S,C,V7,frl,V8,V9,Wd,We,Wh,Wi,Wj,bB⟩:∃ (V5:Option Addr) (fcl V6 S C:Nat) (V7:Option Addr) (frl V8:Nat) (V9:Option Addr) (Wd We:Nat) (Wh:Option Addr) (Wi Wj:Nat),f.cells ts ⟨⟨sa,sc,src⟩,bY,aI,wh,group,⟨ka,kc,keys⟩,⟨ua,uc,sums⟩,⟨ea,ec,aV⟩,⟨da,dc,ord⟩⟩=#[.slice sa src.length sc,.slice bY wh.length aI,.bool group,.slice ka keys.length kc,.slice ua sums.length uc,.slice ea aV.length ec,.slice da ord.length dc,.slice V5 fcl V6,.int .u64 ((S:Nat):Int),.int .u64 ((C:Nat):Int),.slice V7 frl V8,.slice V9 Wd We,.slice Wh Wi Wj]:=⟨f.ca,_,f.cc,_,_,f.ra,_,f.rc,f.na,f.nl,f.nc,f.pa,f.pl,f.pc,rfl⟩
  rw[bB];clear bB;obtain⟨w3,hw3⟩:∃ x,w2.alloc (.cells #[.slice sa src.length sc,.slice bY wh.length aI,.bool group,.slice ka keys.length kc,.slice ua sums.length uc,.slice ea aV.length ec,.slice da ord.length dc,.slice V5 fcl V6,.int .u64 ((S:Nat):Int),.int .u64 ((C:Nat):Int),.slice V7 frl V8,.slice V9 Wd We,.slice Wh Wi Wj] 90)=x:=⟨_,rfl⟩
  have c6:w3.cell? (aD pb (pof+N1*6+5))=some (.int .u64 (CT:Int)):=by rw[<- hw3]; exact cB (dn _ _) c5
  have HB3:Hid (Bw w w3):=by rw[<- hw3]; exact HB2.o _
  clear c5;go_wp2;go_ret2;exact⟨by rw[HV.o,HU.o]; rfl,HB3.o⟩
