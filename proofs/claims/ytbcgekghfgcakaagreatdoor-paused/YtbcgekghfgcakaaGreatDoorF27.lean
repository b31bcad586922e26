import Derived.Test.YtbcgekghfgcakaaGreatDoorF14
import Derived.Test.YtbcgekghfgcakaaGreatDoorF26
set_option linter.all false
set_option maxRecDepth 100000
set_option maxHeartbeats 16000000
namespace Go.Proofs.Zz
open Go.RowKit Go.Shelf
theorem uE (ls:List (List Int)) (l:List Int):(iI ls l).length<=ls.length+1:=by
 unfold iI;split <;> simp
theorem yG {ls:List (List Int)} {l:List Int} (h:∃ r,ls=[]::r):∃ r,iI ls l=[]::r:=by
 obtain⟨r,rfl⟩:=h;unfold iI;split
 ·exact⟨r,rfl⟩
 ·exact⟨r++[l],rfl⟩
theorem gz (ts:List af) (q:ae) (s:Nat) (acc:List (List Int)) (c:Int):(bB ts q s acc c).length<=acc.length+1:=by
 unfold bB;split
 ·exact uE _ _
 ·omega
theorem vS {ts:List af} {q:ae} {s:Nat} {acc:List (List Int)} (c:Int) (h:∃ r,acc=[]::r):∃ r,bB ts q s acc c=[]::r:=by
 unfold bB;split
 ·exact yG h
 ·exact h
theorem Dv (ts:List af) (q:ae) (s:Nat):∀ (l:List ay) (acc:List (List Int)),(∃ r,acc=[]::r)->(∃ r,l.foldl (iy ts q s) acc=[]::r)/\(l.foldl (iy ts q s) acc).length<=acc.length+2*l.length
 | [],acc,h => ⟨h,by simp⟩
 | c::l,acc,h => by
  have hs:(∃ r,iy ts q s acc c=[]::r)/\(iy ts q s acc c).length<=acc.length+2:=by
   unfold iy;split
   ·refine⟨vS _ (vS _ h),?_⟩;have h1:=gz ts q s acc (bE c.cs).1;have h2:=gz ts q s (bB ts q s acc (bE c.cs).1) (bE c.cs).2.1;omega
   ·exact⟨h,by omega⟩
  have:=Dv ts q s l _ hs.1;refine⟨this.1,Q4 this.2 ?_⟩;simp only[Q5];omega
theorem A8 (ts:List af) (q:ae) (s:Nat) (h8:q.wh.length<=8):(∃ r,fA ts q s=[]::r)/\(fA ts q s).length<=18:=by
 have h0:∃ r,(if bP s (bT (dS ts q (aN q)))=true then iI [[]] (aN q) else [[]])=[]::r:=by
  split
  ·exact yG ⟨[],rfl⟩
  ·exact⟨[],rfl⟩
 have h1:(if bP s (bT (dS ts q (aN q)))=true then iI [[]] (aN q) else [[]]).length<=2:=by
  split
  ·exact uE _ _
  ·simp
 have:=Dv ts q s q.wh _ h0;exact⟨this.1,Q4 this.2 (by omega)⟩
theorem Env.aja {f:aB} {ts:List af} {q:ae} {W0:World} (E:Env f ts q W0):eT ts q (aN q):=by
 unfold aN;split
 ·exact E.keys
 ·rename_i hg
  split
  ·exact E.want (by simpa using hg)
  ·intro c hc; cases hc
theorem fQ.fz {Tl:TypeId} {F:Nat->Prop} {base:Nat} {W0 w:World} {v:Value} {os:List ah} (h:fQ Tl F base w v os) (hz:Fz F W0 w) (hb:W0.heap.size<=base):Fz (Fv F v) W0 w:=hz.own fun g e=>⟨Q4 hb (Zy h.own e).1,(Zy h.own e).2⟩
theorem vT {F:Nat->Prop} {w:World} {cb:Nat} {c:Int} (hc:w.cell? (aD cb 0)=some (.int .i64 c)) (hF:F cb):IntsIn F w ⟨some (aD cb 0),1,[c]⟩:=
 ⟨⟨by simp,fun i hi=>⟨cb,0,rfl,by
  have:i=0:=by simpa using hi
  subst this;exact hc⟩⟩,fun _ a e=>by cases e; exact hF,(fun e=>by cases e),Qq _⟩
theorem pq {w w':World} {v:Value} (hk:Kept (fun b=>v.ownBlock≠some b) w w') {b o:Nat} {u:Value} (h:w.cell? (aD b o)=some u) (hs:v.ownBlock≠some b):w'.cell? (aD b o)=some u:=by
 rw[Zg (hk.block b (Zf h) hs)];exact h
def eD (F:Nat->Prop) (w1:World) (ls:List (List Int)) (v:Value) (w':World):Prop:=∃ os,fQ 22 F w1.heap.size w' v os/\os.map ah.xs=ls/\os.length<=100/\Below w1.heap.size w1 w'
theorem ae8 {F:Nat->Prop} {w1 w:World} {ls:List (List Int)} {v:Value} (h:eD F w1 ls v w) (hl:ls.length<=50) (o:ah) (ho:IntsIn (Fv F v) w o) (hol:o.xs.length<=1000) :
  Calls Tryz.prog 118 #[v,.slice o.ad o.xs.length o.cap] w fun e w'=>∃ v',e=.returned v'/\(∃ a m c,v' = .slice a m c)/\eD F w1 (iI ls o.xs) v' w'/\Kept (fun b=>v.ownBlock≠some b) w w'/\(v'.ownBlock=v.ownBlock∨∃ g,v'.ownBlock=some g/\w.heap.size<=g):=by
 obtain⟨os,h1,h2,h3,h4⟩:=h;have hlen:os.length<=50:=by have:=congrArg List.length h2; rw[QU] at this; omega
 refine (Sd h1 h4.size o ho hol (by omega)).mono ?_;rintro e w' ⟨v',os',rfl,g1,g2,g3,g4,g5⟩;exact⟨v',rfl,ZA g1.own,⟨os',g1,by rw[g2,h2],by omega,h4.trans (g4.below h4.size (fun b hb e=>by have:=(Zy h1.own e).1; omega))⟩,g4,g5⟩
theorem eD.below {F:Nat->Prop} {w1 w w':World} {ls:List (List Int)} {v:Value} (h:eD F w1 ls v w) (hb:Below w.heap.size w w'):eD F w1 ls v w':=by
 obtain⟨os,h1,h2,h3,h4⟩:=h;exact⟨os,h1.below hb,h2,h3,aG h4 hb⟩
theorem xL {F:Nat->Prop} {W0 w:World} {f:aB} {ts:List af} {q:ae} (E:Env f ts q W0) (hz:Fz F W0 w) (s:Nat) (hs:s<18446744073709551616) :
  Calls Tryz.prog 67 #[.agg (f.cells ts q),.int .u64 (s:Int)] w fun e w'=>∃ v os,e=.returned v/\fQ 22 F w.heap.size w' v os/\os.map ah.xs=fA ts q s/\Below w.heap.size w w':=by
 obtain⟨v0,v1,v2,v3,v4,v5,v6,v7,v8,v9,v10,v11,v12,dw,hv0,hv1,hv2,hv3,hv4,hv5,hv6,-⟩:=Z8 f ts q;subst hv1;have sV:q.cells=#[v0,.slice q.bY q.wh.length q.aI,v2,v3,v4,v5,v6]:=by rw[hv0,hv2,hv3,hv4,hv5,hv6]; rfl
 have YW:Hid (∀ (G:Nat->Prop) x,Fz G W0 x->Calls Tryz.prog 115 #[.agg #[v0,.slice q.bY q.wh.length q.aI,v2,v3,v4,v5,v6]] x (Aq G x (aN q))):=fun G x hx=>by
  rw[<- sV];exact vD E hx
 have yu:Hid (∀ (x:World) (iv:ah),Below w.heap.size w x->iv.At x->eT ts q iv.xs->Calls Tryz.prog 117 #[.agg #[v0,.slice q.bY q.wh.length q.aI,v2,v3,v4,v5,v6,v7,v8,v9,v10,v11,v12],.slice iv.ad iv.xs.length iv.cap] x fun e w'=>e=.returned (.int .u64 ((bT (dS ts q iv.xs):Nat):Int))/\Below x.heap.size x w'):=fun x iv hx hi hc=>by
  rw[<- dw];exact nC f ts q iv.ad iv.cap iv.xs x E.ok ((E.at' hz).below hx).aH hi hc
 have HCV:Hid (∀ (xs:List Int) (x:World),eT ts q xs->Calls Tryz.prog 116 #[.int .u64 (s:Int),.int .u64 ((bT (dS ts q xs):Nat):Int)] x fun e w'=>e=.returned (.bool (bP s (bT (dS ts q xs))))/\w' = x):=fun xs x hc=>oF s _ hs (by have:=Oe E.ok hc xs.length; rwa [Qt] at this) x
 have HEC:Hid (∀ (k:Nat) (x:World),k<q.wh.length->Below w.heap.size w x->x.cell? ⟨(q.bY.getD (aD 0 0)).block,(q.bY.getD (aD 0 0)).off+k,none⟩=some (.slice (q.wh.getD k lz).ad (q.wh.getD k lz).cs.length (q.wh.getD k lz).cap)/\(∃ b off,q.bY=some (aD b off))/\Calls Tryz.prog 119 #[.agg #[.slice (q.wh.getD k lz).ad (q.wh.getD k lz).cs.length (q.wh.getD k lz).cap]] x fun e w'=>e=.returned (.tuple #[.int .i64 (bE (q.wh.getD k lz).cs).1,.int .i64 (bE (q.wh.getD k lz).cs).2.1,.bool (bE (q.wh.getD k lz).cs).2.2])/\Below x.heap.size x w'):=fun k x hk hx=>by
  have hq:=((E.at' hz).below hx).query.wh;obtain⟨b,off,e,hc⟩:=hq.2.1 k hk;refine⟨?_,⟨b,off,e⟩,nV _ _ _ x (hq.2.2 k hk) (E.ok.some k hk)⟩;rw[e];exact hc
 have HEK:Hid (∀ k,k<q.wh.length->(bE (q.wh.getD k lz).cs).2.2=true->eT ts q [(bE (q.wh.getD k lz).cs).1]/\eT ts q [(bE (q.wh.getD k lz).cs).2.1]):=fun k hk h=>Du E.ok hk h
 obtain⟨I0,hI0⟩:∃ I,I=(if bP s (bT (dS ts q (aN q)))=true then iI [[]] (aN q) else [[]]):=⟨_,rfl⟩
 have avU:I0.length<=2:=by
  rw[hI0];split
  ·exact uE _ _
  ·simp
 obtain⟨UK,hUK⟩:∃ U:Nat->List (List Int),U=fun k=>(q.wh.take k).foldl (iy ts q s) I0:=⟨_,rfl⟩
 have HST:Hid (∀ k,k<q.wh.length->UK (k+1)=iy ts q s (UK k) (q.wh.getD k lz)):=fun k hk=>by rw[hUK]; exact gy _ I0 q.wh lz hk
 have HUL:Hid (∀ k,(UK k).length<=2+2*k):=fun k=>by
  have key:∀ (l:List ay) (acc:List (List Int)),(l.foldl (iy ts q s) acc).length<=acc.length+2*l.length:=by
   intro l
   induction l with
   | nil => intro acc; simp
   | cons c l ih =>
    intro acc;refine Q4 (ih _) ?_;have:(iy ts q s acc c).length<=acc.length+2:=by
     unfold iy;split
     ·have h1:=gz ts q s acc (bE c.cs).1;have h2:=gz ts q s (bB ts q s acc (bE c.cs).1) (bE c.cs).2.1;omega
     ·omega
    simp only[Q5];omega
  rw[hUK];refine Q4 (key _ _) ?_;rw[Q6];omega
 have HU0:Hid (UK 0=I0):=by show _=_; rw[hUK]; rfl
 have HUE:Hid (UK q.wh.length=fA ts q s):=by
  show _=_
  rw[hUK]
  show (q.wh.take q.wh.length).foldl _ _=_
  rw[Qt,hI0];rfl
 have hwl:=E.eight;have ql:Hid (eT ts q (aN q)/\(aN q).length<=4):=⟨E.aja,E.Vb⟩
 have HI0:=Zh hI0;obtain⟨w1,hw1,hb1,hg1⟩:=bu w #[v0,.slice q.bY q.wh.length q.aI,v2,v3,v4,v5,v6,v7,v8,v9,v10,v11,v12] 94;obtain⟨w2,hw2,hb2,hx2⟩:=bu w1 #[.slice none 0 0] 22;have HS2:Hid (eD F w1 [[]] (.slice (some (aD w1.heap.size 0)) 1 1) w2):=⟨[dU],⟨⟨rfl,.inr ⟨w1.heap.size,1,#[.slice none 0 0],rfl,Qq _,hx2,Qq _,by unfold maxLen; omega,rfl,rfl⟩⟩,fun o ho=>by rw[QY] at ho; rw[ho]; exact⟨IntsIn.dU _ _,QQ _⟩⟩,rfl,by simp,hb2⟩
 have Ip:Hid (∀ (x:World) (v:Value) (ls:List (List Int)),eD F w1 ls v x->Fz (Fv F v) W0 x/\Below w.heap.size w x/\Below w1.heap.size w1 x/\(∀ g,v.ownBlock=some g->g<x.heap.size)):=fun x v ls h=>by
  obtain⟨os,h1,h2,h3,h4⟩:=h;have hbx:=aG hb1 h4;have:=h1.fz (hz.next hbx) (Q4 hz.below.size hb1.size);exact⟨this,hbx,h4,fun g e=>(Zy h1.own e).2⟩
 have HFB:Hid (∀ (x:World),Below w1.heap.size w1 x->GB x w.heap.size 94 #[v0,.slice q.bY q.wh.length q.aI,v2,v3,v4,v5,v6,v7,v8,v9,v10,v11,v12]):=fun x hx=>hg1.keep (Q9 (s:=fun b=>b<w1.heap.size) hx (fun _ h _=>h)) hg1.lt
 have hf2:=HFB.out w2 hb2;obtain⟨a0,a1,a2,a3,a4,a5,a6,a7,a8,a9,fI,fU,a12⟩:=hf2.k13;have hEO:=YW.out _ w2 (Ip.out w2 _ _ HS2.out).1;have ac4:Hid (∀ (x:World) (v:Value) (ls:List (List Int)),eD F w1 ls v x->∃ os,fQ 22 F w.heap.size x v os/\os.map ah.xs=ls/\Below w.heap.size w x):=fun x v ls h=>by
  obtain⟨os,h1,h2,h3,h4⟩:=h;exact⟨os,⟨Z5 h1.own hb1.size,h1.each⟩,h2,aG hb1 h4⟩
 rw[dw];clear dw sV hv0 hv2 hv3 hv4 hv5 hv6 hI0 hUK hz hb1 hg1 hb2 hx2 hf2 E;generalize fA ts q s=R at *;generalize aN q=EO at *;go_enter Tryz.func67,Tryz.ntmps67;go_wp2_with fail;refine hEO.mono ?_;rintro e w3 ⟨iv,rfl,nG,hin,hb3⟩;obtain⟨ea,ec,ex⟩:=iv;simp only[ah.val] at nG ⊢;subst nG;have hS3:=HS2.out.below hb3;have ae9:=Ip.out w3 _ _ hS3;have hf3:=HFB.out w3 ae9.2.2.1;clear a0 a1 a2 a3 a4 a5 a6 a7 a8 a9 fI fU a12;obtain⟨a0,a1,a2,a3,a4,a5,a6,a7,a8,a9,fI,fU,a12⟩:=hf3.k13;have zf:=yu.out w3 ⟨ea,ec,ex⟩ ae9.2.1 hin.at' ql.out.1;have Gc:=hd hS3;have aom:=hd hin;have Jg:=fun x=>HCV.out ex x ql.out.1
 clear hEO hS3 ae9 hf3 hin hb3 hw1 hw2;generalize bT (dS ts q ex)=se at *;obtain⟨el,hel⟩:∃ n,n=ex.length:=⟨_,rfl⟩
 have HEL:=hd hel;simp only at zf;rw[<- hel] at zf ⊢;clear hel;go_wp2_with fail;refine zf.mono ?_;rintro e w4 ⟨rfl,hb4⟩;have Jh:=Jg w4;have OD:=Zh (Gc.out.below hb4);have aon:=Zh (aom.out.below hb4);clear zf hb4 Jg;go_wp2_with fail;refine Jh.mono ?_;rintro e wz ⟨rfl,hwz⟩;have nI:=hwz.symm;subst nI;clear Jh a0 a1 a2 a3 a4 a5 a6 a7 a8 a9 fI fU a12;generalize bP s se=CB0 at *
 cases CB0 with
 | true =>
  have Dk:=ae8 OD.out (by simp) ⟨ea,ec,ex⟩ aon.out (by show ex.length<=1000; have:=ql.out.2; omega);simp only at Dk;rw[<- HEL.out] at Dk;go_wp2_with fail;refine Dk.mono ?_;rintro e w5 ⟨v',rfl,⟨ra,rm,rc,rfl⟩,hst,-⟩;have Gd:Hid (eD F w1 (UK 0) (.slice ra rm rc) w5):=by show eD _ _ _ _ _; rw[HU0.out,HI0.out]; exact hst
  have VQ:=Ip.out w5 _ _ Gd.out;have Fj:=HFB.out w5 VQ.2.2.1;clear Dk hst;obtain⟨a0,a1,a2,a3,a4,a5,a6,a7,a8,a9,fI,fU,a12⟩:=Fj.k13;clear Fj VQ;go_wp2;go_loopw [5,30] (fun pv xv wr=>∃ k:Nat,k<=q.wh.length/\xv=.int .i64 (k:Int)/\(∃ a m c,pv=.slice a m c)/\Hid (eD F w1 (UK k) pv wr)) (fun _ xv _=>q.wh.length-(intOf xv).toNat)
  case atStart=>exact⟨0,QQ _,rfl,⟨_,_,_,rfl⟩,Gd.out⟩
  case round=>
   obtain⟨k,hk,rfl,⟨pa,pm,pc,rfl⟩,YX⟩:=hrel;by_cases hlt:k<q.wh.length
   ·have hfz:=Ip.out wr _ _ YX.out;obtain⟨hcell,⟨kb,vU,MK⟩,YY⟩:=HEC.out k wr hlt hfz.2.1;have ML:=fun x (hx:Below w.heap.size w x)=>(HEC.out k x hlt hx).2.2
    have nD:=HST.out k hlt;have Fw:=HEK.out k hlt;have aoo:=HUL.out k;rw[MK] at hcell ⊢;clear MK;change wr.cell? (aD kb (vU+k))=some (.slice (q.wh.getD k lz).ad (q.wh.getD k lz).cs.length (q.wh.getD k lz).cap) at hcell;unfold iy at nD;generalize bE (q.wh.getD k lz).cs=EC at *;obtain⟨c1,c2,c3⟩:=EC;simp only at ML nD Fw YY;generalize (q.wh.getD k lz).ad=ca at *;generalize (q.wh.getD k lz).cs.length=cl at *;generalize (q.wh.getD k lz).cap=cc at *;obtain⟨y1,hy1⟩:∃ x,wr.alloc (.cells #[.slice ca cl cc] 77)=x:=⟨_,rfl⟩
    have hd1:Below wr.heap.size wr y1:=by rw[<- hy1]; exact bU _ _
    have b0:y1.cell? (aD wr.heap.size 0)=some (.slice ca cl cc):=by rw[<- hy1]; simp
    have VR:=ML y1 (aG hfz.2.1 hd1);have nR:=Zh (YX.out.below hd1);clear hd1 YY ML hfz;obtain⟨wl,aop⟩:∃ n,n=q.wh.length:=⟨_,rfl⟩
    go_wp2_with fail;refine VR.mono ?_;rintro e y2 ⟨rfl,hb2⟩;have MM:=Zh (nR.out.below hb2);clear VR hy1 b0 hcell hb2
    cases c3 with
    | false =>
     have pX:=hd nD;clear nD Fw;go_wp2;go_roundw
     case rel=>exact⟨k+1,by omega,by go_num,⟨_,_,_,rfl⟩,by show eD _ _ _ _ _; rw[pX.out]; exact MM.out⟩
     case measure=>simp[intOf]; omega
    | true =>
     obtain⟨hk1,hk2⟩:=Fw rfl;have xM:eT ts q [c1,c2]:=fun c hc=>by
      rcases QP.1 hc with rfl | hc
      ·exact hk1 _ Xo
      ·exact hk2 c hc
     have qX:=Ip.out y2 _ _ MM.out;obtain⟨y3,hy3,hd3,hx3⟩:=bu y2 #[.int .i64 c1,.int .i64 c2] 3;have zf:=yu.out y3 ⟨some (aD y2.heap.size 0),2,[c1,c2]⟩ (aG qX.2.1 hd3) ⟨by simp,fun i hi=>⟨y2.heap.size,0,rfl,by
      rw[QE];have hi':i<2:=hi
      match i,hi' with
      | 0,_ => exact hx3.cell 0
      | 1,_ => exact hx3.cell 1⟩⟩ xM
     change Calls Tryz.prog 117 #[.agg #[v0,.slice q.bY q.wh.length q.aI,v2,v3,v4,v5,v6,v7,v8,v9,v10,v11,v12],.slice (some (aD y2.heap.size 0)) 2 2] y3 _ at zf;have hf2:=HFB.out y2 qX.2.2.1;obtain⟨a0,a1,a2,a3,a4,a5,a6,a7,a8,a9,fI,fU,a12⟩:=hf2.k13;have Gc:=Zh (MM.out.below hd3);have Jg:=fun x=>HCV.out [c1,c2] x xM
     have lK:Hid (eT ts q [c1]/\eT ts q [c2]):=⟨hk1,hk2⟩
     clear hf2 hd3 hx3 qX hk1 hk2 xM Fw;generalize bT (dS ts q [c1,c2])=s12 at *;go_wp2_with fail;refine zf.mono ?_;rintro e y4 ⟨rfl,hb4⟩;have OD:=Zh (Gc.out.below hb4);have Jh:=Jg y4;clear zf hb4 hy3 Jg a0 a1 a2 a3 a4 a5 a6 a7 a8 a9 fI fU a12;go_wp2_with fail;refine Jh.mono ?_;rintro e yz ⟨rfl,hyz⟩;have afa:=hyz.symm;subst afa;clear Jh;generalize bP s s12=CB at *
     cases CB with
     | true =>
      have pX:=hd nD;clear nD;go_wp2;go_roundw
      case rel=>exact⟨k+1,by omega,by go_num,⟨_,_,_,rfl⟩,by show eD _ _ _ _ _; rw[pX.out]; exact OD.out⟩
      case measure=>simp[intOf]; omega
     | false =>
      have pX:=hd nD;obtain⟨y5,hy5,hd5,hx5⟩:=bu y4 #[.int .i64 c1,.int .i64 c2] 3;have HI5:Hid (eD F w1 (UK k) (.slice pa pm pc) y5/\y5.cell? (aD y4.heap.size 0)=some (.int .i64 c1)/\y5.cell? (aD y4.heap.size 1)=some (.int .i64 c2)/\(Value.slice pa pm pc).ownBlock≠some y4.heap.size):=⟨OD.out.below hd5,hx5.cell 0,hx5.cell 1,fun e=>by have:=(Ip.out y4 _ _ OD.out).2.2.2 _ e; omega⟩
      obtain⟨lb,hlb⟩:∃ b,b=y4.heap.size:=⟨_,rfl⟩
      rw[<- hlb] at HI5;obtain⟨UC,hUC⟩:∃ U:Nat->List (List Int),U=fun j=>if j=0 then UK k else if j=1 then bB ts q s (UK k) c1 else bB ts q s (bB ts q s (UK k) c1) c2:=⟨_,rfl⟩
      have HU:Hid (UC 0=UK k/\UC 1=bB ts q s (UC 0) c1/\UC 2=bB ts q s (UC 1) c2/\UC 2=UK (k+1)):=by rw[hUC]; exact⟨rfl,rfl,rfl,pX.out.symm⟩
      have afd:Hid (∀ j,(UC j).length<=40):=fun j=>by
       have h1:=gz ts q s (UK k) c1;have h2:=gz ts q s (bB ts q s (UK k) c1) c2;rw[hUC]
       show (if j=0 then UK k else if j=1 then bB ts q s (UK k) c1 else bB ts q s (bB ts q s (UK k) c1) c2).length<=40
       split
       ·omega
       ·split <;> omega
      have aor:=Zh hlb.symm;clear hd5 hx5 nD hUC;go_wp2;rw[<- hlb] at *;clear hy5;go_loopw [5,55] (fun pv xv wx=>∃ j:Nat,j<=2/\xv=.int .i64 (j:Int)/\(∃ a m c,pv=.slice a m c)/\Hid (eD F w1 (UC j) pv wx/\wx.cell? (aD lb 0)=some (.int .i64 c1)/\wx.cell? (aD lb 1)=some (.int .i64 c2)/\pv.ownBlock≠some lb)) (fun _ xv _=>2-(intOf xv).toNat)
      case atStart=>exact⟨0,by omega,rfl,⟨_,_,_,rfl⟩,by show eD _ _ _ _ _/\_; rw[HU.out.1]; exact HI5.out⟩
      case round=>
       obtain⟨j,hj,rfl,⟨qa,qm,qc,rfl⟩,HJ⟩:=hrel;by_cases hj2:j<2
       ·have hcj:∃ fZ,wr.cell? (aD lb j)=some (.int .i64 fZ)/\eT ts q [fZ]/\UC (j+1)=bB ts q s (UC j) fZ:=by
         have afe:j=0∨j=1:=by omega
         rcases afe with rfl | rfl
         ·exact⟨c1,HJ.out.2.1,lK.out.1,HU.out.2.1⟩
         ·exact⟨c2,HJ.out.2.2.1,lK.out.2,HU.out.2.2.1⟩
        obtain⟨fZ,kR,MN,hnx⟩:=hcj;have Ji:=HJ.out;have hfz:=Ip.out wr _ _ Ji.1;have hf:=HFB.out wr hfz.2.2.1;obtain⟨a0,a1,a2,a3,a4,a5,a6,a7,a8,a9,fI,fU,a12⟩:=hf.k13;obtain⟨z1,hz1⟩:∃ x,wr.alloc (.cells #[.int .i64 fZ] 3)=x:=⟨_,rfl⟩
        have hd1:Below wr.heap.size wr z1:=by rw[<- hz1]; exact bU _ _
        have hx1:z1.cell? (aD wr.heap.size 0)=some (.int .i64 fZ):=by rw[<- hz1]; simp
        have Le:=yu.out z1 ⟨some (aD wr.heap.size 0),1,[fZ]⟩ (aG hfz.2.1 hd1) (vT (F:=fun _=>True) hx1 trivial).at' MN;change Calls Tryz.prog 117 #[.agg #[v0,.slice q.bY q.wh.length q.aI,v2,v3,v4,v5,v6,v7,v8,v9,v10,v11,v12],.slice (some (aD wr.heap.size 0)) 1 1] z1 _ at Le;have hCV:=fun x=>HCV.out [fZ] x MN
        have aff:=Zh hd1;have HJB:Hid (∀ x,Below wr.heap.size wr x->eD F w1 (UC j) (.slice qa qm qc) x/\x.cell? (aD lb 0)=some (.int .i64 c1)/\x.cell? (aD lb 1)=some (.int .i64 c2)/\(Value.slice qa qm qc).ownBlock≠some lb):=fun x hx=>⟨Ji.1.below hx,cB hx Ji.2.1,cB hx Ji.2.2.1,Ji.2.2.2⟩
        unfold bB at hnx;have Fx:=Zh hnx;clear hf hfz hd1 hx1 MN hnx Ji;generalize bT (dS ts q [fZ])=sc at *;obtain⟨wq,hwq⟩:∃ x,x=wr:=⟨_,rfl⟩
        subst hwq;go_wp2_with fail;refine Le.mono ?_;rintro e z2 ⟨rfl,hb2⟩;have MO:=Zh (aG aff.out hb2);have VS:=hCV z2;clear Le hb2 hz1 hCV a0 a1 a2 a3 a4 a5 a6 a7 a8 a9 fI fU a12 kR;go_wp2_with fail;refine VS.mono ?_;rintro e zz ⟨rfl,hzz⟩;have afh:=hzz.symm;subst afh;clear VS;generalize bP s sc=CB2 at *
        cases CB2 with
        | false =>
         have YZ:Hid (UC (j+1)=UC j):=Fx.out;have HF:=Zh (HJB.out z2 MO.out);clear Fx;go_wp2;go_roundw
         case rel=>exact⟨j+1,by omega,by go_num,⟨_,_,_,rfl⟩,by show eD _ _ _ _ _/\_; rw[YZ.out]; exact HF.out⟩
         case measure=>simp[intOf]; omega
        | true =>
         have YZ:Hid (UC (j+1)=iI (UC j) [fZ]):=Fx.out;obtain⟨z3,hz3⟩:∃ x,z2.alloc (.cells #[.int .i64 fZ] 3)=x:=⟨_,rfl⟩
         have hd3:Below z2.heap.size z2 z3:=by rw[<- hz3]; exact bU _ _
         have hx3:z3.cell? (aD z2.heap.size 0)=some (.int .i64 fZ):=by rw[<- hz3]; simp
         have hJ3:=HJB.out z3 (aG MO.out hd3);have hJ2:=HJB.out z2 MO.out;have qX:=Ip.out z2 _ _ hJ2.1;have Dk:=ae8 hJ3.1 (by have:=afd.out j; omega) ⟨some (aD z2.heap.size 0),1,[fZ]⟩ (vT hx3 (qX.1.high _ (Qq _))) (by simp);change Calls Tryz.prog 118 #[.slice qa qm qc,.slice (some (aD z2.heap.size 0)) 1 1] z3 _ at Dk;have Hm:=Zh hJ3;clear Fx hd3 hx3 hJ3 hJ2 qX;go_wp2_with fail;refine Dk.mono ?_;rintro e z4 ⟨v',rfl,⟨ra,rm,rc,rfl⟩,hst,hk4,A7⟩;have HF:Hid (eD F w1 (UC (j+1)) (.slice ra rm rc) z4/\z4.cell? (aD lb 0)=some (.int .i64 c1)/\z4.cell? (aD lb 1)=some (.int .i64 c2)/\(Value.slice ra rm rc).ownBlock≠some lb):=by
          refine⟨by rw[YZ.out]; exact hst,pq hk4 Hm.out.2.1 Hm.out.2.2.2,pq hk4 Hm.out.2.2.1 Hm.out.2.2.2,fun e=>?_⟩;rcases A7 with h | ⟨g,h,hg⟩
          ·exact Hm.out.2.2.2 (h ▸ e)
          ·rw[h] at e;injection e with e;have hlt3:lb<z3.heap.size:=Zf Hm.out.2.1;omega
         clear Dk hst hk4 A7 hz3;go_wp2;go_roundw
         case rel=>exact⟨j+1,by omega,by go_num,⟨_,_,_,rfl⟩,HF.out⟩
         case measure=>simp[intOf]; omega
       ·have hje:j=2:=by omega
        have HF:Hid (eD F w1 (UK (k+1)) (.slice qa qm qc) wr):=by
         have:=HJ.out.1;rw[hje,HU.out.2.2.2] at this;exact this
        clear hje;go_wp2;go_roundw
        case rel=>exact⟨k+1,by omega,by go_num,⟨_,_,_,rfl⟩,HF.out⟩
        case measure=>simp[intOf]; omega
   ·have rO:q.wh.length=k:=by omega
    have HF:Hid (∃ os,fQ 22 F w.heap.size wr (.slice pa pm pc) os/\os.map ah.xs=R/\Below w.heap.size w wr):=by
     refine ac4.out wr _ _ ?_;have:=YX.out;rw[<- rO,HUE.out] at this;exact this
    clear rO;go_wp2;go_ret;obtain⟨os,h1,h2,h3⟩:=HF.out;exact⟨_,os,rfl,h1,h2,h3⟩
 | false =>
  have Gd:Hid (eD F w1 (UK 0) (.slice (some (aD w1.heap.size 0)) 1 1) w4):=by show eD _ _ _ _ _; rw[HU0.out,HI0.out]; exact OD.out
  have VQ:=Ip.out w4 _ _ Gd.out;have Fj:=HFB.out w4 VQ.2.2.1;obtain⟨a0,a1,a2,a3,a4,a5,a6,a7,a8,a9,fI,fU,a12⟩:=Fj.k13;clear Fj VQ;go_wp2;go_loopw [5,30] (fun pv xv wr=>∃ k:Nat,k<=q.wh.length/\xv=.int .i64 (k:Int)/\(∃ a m c,pv=.slice a m c)/\Hid (eD F w1 (UK k) pv wr)) (fun _ xv _=>q.wh.length-(intOf xv).toNat)
  case atStart=>exact⟨0,QQ _,rfl,⟨_,_,_,rfl⟩,Gd.out⟩
  case round=>
   obtain⟨k,hk,rfl,⟨pa,pm,pc,rfl⟩,YX⟩:=hrel;by_cases hlt:k<q.wh.length
   ·have hfz:=Ip.out wr _ _ YX.out;obtain⟨hcell,⟨kb,vU,MK⟩,YY⟩:=HEC.out k wr hlt hfz.2.1;have ML:=fun x (hx:Below w.heap.size w x)=>(HEC.out k x hlt hx).2.2
    have nD:=HST.out k hlt;have Fw:=HEK.out k hlt;have aoo:=HUL.out k;rw[MK] at hcell ⊢;clear MK;change wr.cell? (aD kb (vU+k))=some (.slice (q.wh.getD k lz).ad (q.wh.getD k lz).cs.length (q.wh.getD k lz).cap) at hcell;unfold iy at nD;generalize bE (q.wh.getD k lz).cs=EC at *;obtain⟨c1,c2,c3⟩:=EC;simp only at ML nD Fw YY;generalize (q.wh.getD k lz).ad=ca at *;generalize (q.wh.getD k lz).cs.length=cl at *;generalize (q.wh.getD k lz).cap=cc at *;obtain⟨y1,hy1⟩:∃ x,wr.alloc (.cells #[.slice ca cl cc] 77)=x:=⟨_,rfl⟩
    have hd1:Below wr.heap.size wr y1:=by rw[<- hy1]; exact bU _ _
    have b0:y1.cell? (aD wr.heap.size 0)=some (.slice ca cl cc):=by rw[<- hy1]; simp
    have VR:=ML y1 (aG hfz.2.1 hd1);have nR:=Zh (YX.out.below hd1);clear hd1 YY ML hfz;obtain⟨wl,aop⟩:∃ n,n=q.wh.length:=⟨_,rfl⟩
    go_wp2_with fail;refine VR.mono ?_;rintro e y2 ⟨rfl,hb2⟩;have MM:=Zh (nR.out.below hb2);clear VR hy1 b0 hcell hb2
    cases c3 with
    | false =>
     have pX:=hd nD;clear nD Fw;go_wp2;go_roundw
     case rel=>exact⟨k+1,by omega,by go_num,⟨_,_,_,rfl⟩,by show eD _ _ _ _ _; rw[pX.out]; exact MM.out⟩
     case measure=>simp[intOf]; omega
    | true =>
     obtain⟨hk1,hk2⟩:=Fw rfl;have xM:eT ts q [c1,c2]:=fun c hc=>by
      rcases QP.1 hc with rfl | hc
      ·exact hk1 _ Xo
      ·exact hk2 c hc
     have qX:=Ip.out y2 _ _ MM.out;obtain⟨y3,hy3,hd3,hx3⟩:=bu y2 #[.int .i64 c1,.int .i64 c2] 3;have zf:=yu.out y3 ⟨some (aD y2.heap.size 0),2,[c1,c2]⟩ (aG qX.2.1 hd3) ⟨by simp,fun i hi=>⟨y2.heap.size,0,rfl,by
      rw[QE];have hi':i<2:=hi
      match i,hi' with
      | 0,_ => exact hx3.cell 0
      | 1,_ => exact hx3.cell 1⟩⟩ xM
     change Calls Tryz.prog 117 #[.agg #[v0,.slice q.bY q.wh.length q.aI,v2,v3,v4,v5,v6,v7,v8,v9,v10,v11,v12],.slice (some (aD y2.heap.size 0)) 2 2] y3 _ at zf;have hf2:=HFB.out y2 qX.2.2.1;obtain⟨a0,a1,a2,a3,a4,a5,a6,a7,a8,a9,fI,fU,a12⟩:=hf2.k13;have Gc:=Zh (MM.out.below hd3);have Jg:=fun x=>HCV.out [c1,c2] x xM
     have lK:Hid (eT ts q [c1]/\eT ts q [c2]):=⟨hk1,hk2⟩
     clear hf2 hd3 hx3 qX hk1 hk2 xM Fw;generalize bT (dS ts q [c1,c2])=s12 at *;go_wp2_with fail;refine zf.mono ?_;rintro e y4 ⟨rfl,hb4⟩;have OD:=Zh (Gc.out.below hb4);have Jh:=Jg y4;clear zf hb4 hy3 Jg a0 a1 a2 a3 a4 a5 a6 a7 a8 a9 fI fU a12;go_wp2_with fail;refine Jh.mono ?_;rintro e yz ⟨rfl,hyz⟩;have afa:=hyz.symm;subst afa;clear Jh;generalize bP s s12=CB at *
     cases CB with
     | true =>
      have pX:=hd nD;clear nD;go_wp2;go_roundw
      case rel=>exact⟨k+1,by omega,by go_num,⟨_,_,_,rfl⟩,by show eD _ _ _ _ _; rw[pX.out]; exact OD.out⟩
      case measure=>simp[intOf]; omega
     | false =>
      have pX:=hd nD;obtain⟨y5,hy5,hd5,hx5⟩:=bu y4 #[.int .i64 c1,.int .i64 c2] 3;have HI5:Hid (eD F w1 (UK k) (.slice pa pm pc) y5/\y5.cell? (aD y4.heap.size 0)=some (.int .i64 c1)/\y5.cell? (aD y4.heap.size 1)=some (.int .i64 c2)/\(Value.slice pa pm pc).ownBlock≠some y4.heap.size):=⟨OD.out.below hd5,hx5.cell 0,hx5.cell 1,fun e=>by have:=(Ip.out y4 _ _ OD.out).2.2.2 _ e; omega⟩
      obtain⟨lb,hlb⟩:∃ b,b=y4.heap.size:=⟨_,rfl⟩
      rw[<- hlb] at HI5;obtain⟨UC,hUC⟩:∃ U:Nat->List (List Int),U=fun j=>if j=0 then UK k else if j=1 then bB ts q s (UK k) c1 else bB ts q s (bB ts q s (UK k) c1) c2:=⟨_,rfl⟩
      have HU:Hid (UC 0=UK k/\UC 1=bB ts q s (UC 0) c1/\UC 2=bB ts q s (UC 1) c2/\UC 2=UK (k+1)):=by rw[hUC]; exact⟨rfl,rfl,rfl,pX.out.symm⟩
      have afd:Hid (∀ j,(UC j).length<=40):=fun j=>by
       have h1:=gz ts q s (UK k) c1;have h2:=gz ts q s (bB ts q s (UK k) c1) c2;rw[hUC]
       show (if j=0 then UK k else if j=1 then bB ts q s (UK k) c1 else bB ts q s (bB ts q s (UK k) c1) c2).length<=40
       split
       ·omega
       ·split <;> omega
      have aor:=Zh hlb.symm;clear hd5 hx5 nD hUC;go_wp2;rw[<- hlb] at *;clear hy5;go_loopw [5,55] (fun pv xv wx=>∃ j:Nat,j<=2/\xv=.int .i64 (j:Int)/\(∃ a m c,pv=.slice a m c)/\Hid (eD F w1 (UC j) pv wx/\wx.cell? (aD lb 0)=some (.int .i64 c1)/\wx.cell? (aD lb 1)=some (.int .i64 c2)/\pv.ownBlock≠some lb)) (fun _ xv _=>2-(intOf xv).toNat)
      case atStart=>exact⟨0,by omega,rfl,⟨_,_,_,rfl⟩,by show eD _ _ _ _ _/\_; rw[HU.out.1]; exact HI5.out⟩
      case round=>
       obtain⟨j,hj,rfl,⟨qa,qm,qc,rfl⟩,HJ⟩:=hrel;by_cases hj2:j<2
       ·have hcj:∃ fZ,wr.cell? (aD lb j)=some (.int .i64 fZ)/\eT ts q [fZ]/\UC (j+1)=bB ts q s (UC j) fZ:=by
         have afe:j=0∨j=1:=by omega
         rcases afe with rfl | rfl
         ·exact⟨c1,HJ.out.2.1,lK.out.1,HU.out.2.1⟩
         ·exact⟨c2,HJ.out.2.2.1,lK.out.2,HU.out.2.2.1⟩
        obtain⟨fZ,kR,MN,hnx⟩:=hcj;have Ji:=HJ.out;have hfz:=Ip.out wr _ _ Ji.1;have hf:=HFB.out wr hfz.2.2.1;obtain⟨a0,a1,a2,a3,a4,a5,a6,a7,a8,a9,fI,fU,a12⟩:=hf.k13;obtain⟨z1,hz1⟩:∃ x,wr.alloc (.cells #[.int .i64 fZ] 3)=x:=⟨_,rfl⟩
        have hd1:Below wr.heap.size wr z1:=by rw[<- hz1]; exact bU _ _
        have hx1:z1.cell? (aD wr.heap.size 0)=some (.int .i64 fZ):=by rw[<- hz1]; simp
        have Le:=yu.out z1 ⟨some (aD wr.heap.size 0),1,[fZ]⟩ (aG hfz.2.1 hd1) (vT (F:=fun _=>True) hx1 trivial).at' MN;change Calls Tryz.prog 117 #[.agg #[v0,.slice q.bY q.wh.length q.aI,v2,v3,v4,v5,v6,v7,v8,v9,v10,v11,v12],.slice (some (aD wr.heap.size 0)) 1 1] z1 _ at Le;have hCV:=fun x=>HCV.out [fZ] x MN
        have aff:=Zh hd1;have HJB:Hid (∀ x,Below wr.heap.size wr x->eD F w1 (UC j) (.slice qa qm qc) x/\x.cell? (aD lb 0)=some (.int .i64 c1)/\x.cell? (aD lb 1)=some (.int .i64 c2)/\(Value.slice qa qm qc).ownBlock≠some lb):=fun x hx=>⟨Ji.1.below hx,cB hx Ji.2.1,cB hx Ji.2.2.1,Ji.2.2.2⟩
        unfold bB at hnx;have Fx:=Zh hnx;clear hf hfz hd1 hx1 MN hnx Ji;generalize bT (dS ts q [fZ])=sc at *;obtain⟨wq,hwq⟩:∃ x,x=wr:=⟨_,rfl⟩
        subst hwq;go_wp2_with fail;refine Le.mono ?_;rintro e z2 ⟨rfl,hb2⟩;have MO:=Zh (aG aff.out hb2);have VS:=hCV z2;clear Le hb2 hz1 hCV a0 a1 a2 a3 a4 a5 a6 a7 a8 a9 fI fU a12 kR;go_wp2_with fail;refine VS.mono ?_;rintro e zz ⟨rfl,hzz⟩;have afh:=hzz.symm;subst afh;clear VS;generalize bP s sc=CB2 at *
        cases CB2 with
        | false =>
         have YZ:Hid (UC (j+1)=UC j):=Fx.out;have HF:=Zh (HJB.out z2 MO.out);clear Fx;go_wp2;go_roundw
         case rel=>exact⟨j+1,by omega,by go_num,⟨_,_,_,rfl⟩,by show eD _ _ _ _ _/\_; rw[YZ.out]; exact HF.out⟩
         case measure=>simp[intOf]; omega
        | true =>
         have YZ:Hid (UC (j+1)=iI (UC j) [fZ]):=Fx.out;obtain⟨z3,hz3⟩:∃ x,z2.alloc (.cells #[.int .i64 fZ] 3)=x:=⟨_,rfl⟩
         have hd3:Below z2.heap.size z2 z3:=by rw[<- hz3]; exact bU _ _
         have hx3:z3.cell? (aD z2.heap.size 0)=some (.int .i64 fZ):=by rw[<- hz3]; simp
         have hJ3:=HJB.out z3 (aG MO.out hd3);have hJ2:=HJB.out z2 MO.out;have qX:=Ip.out z2 _ _ hJ2.1;have Dk:=ae8 hJ3.1 (by have:=afd.out j; omega) ⟨some (aD z2.heap.size 0),1,[fZ]⟩ (vT hx3 (qX.1.high _ (Qq _))) (by simp);change Calls Tryz.prog 118 #[.slice qa qm qc,.slice (some (aD z2.heap.size 0)) 1 1] z3 _ at Dk;have Hm:=Zh hJ3;clear Fx hd3 hx3 hJ3 hJ2 qX;go_wp2_with fail;refine Dk.mono ?_;rintro e z4 ⟨v',rfl,⟨ra,rm,rc,rfl⟩,hst,hk4,A7⟩;have HF:Hid (eD F w1 (UC (j+1)) (.slice ra rm rc) z4/\z4.cell? (aD lb 0)=some (.int .i64 c1)/\z4.cell? (aD lb 1)=some (.int .i64 c2)/\(Value.slice ra rm rc).ownBlock≠some lb):=by
          refine⟨by rw[YZ.out]; exact hst,pq hk4 Hm.out.2.1 Hm.out.2.2.2,pq hk4 Hm.out.2.2.1 Hm.out.2.2.2,fun e=>?_⟩;rcases A7 with h | ⟨g,h,hg⟩
          ·exact Hm.out.2.2.2 (h ▸ e)
          ·rw[h] at e;injection e with e;have hlt3:lb<z3.heap.size:=Zf Hm.out.2.1;omega
         clear Dk hst hk4 A7 hz3;go_wp2;go_roundw
         case rel=>exact⟨j+1,by omega,by go_num,⟨_,_,_,rfl⟩,HF.out⟩
         case measure=>simp[intOf]; omega
       ·have hje:j=2:=by omega
        have HF:Hid (eD F w1 (UK (k+1)) (.slice qa qm qc) wr):=by
         have:=HJ.out.1;rw[hje,HU.out.2.2.2] at this;exact this
        clear hje;go_wp2;go_roundw
        case rel=>exact⟨k+1,by omega,by go_num,⟨_,_,_,rfl⟩,HF.out⟩
        case measure=>simp[intOf]; omega
   ·have rO:q.wh.length=k:=by omega
    have HF:Hid (∃ os,fQ 22 F w.heap.size wr (.slice pa pm pc) os/\os.map ah.xs=R/\Below w.heap.size w wr):=by
     refine ac4.out wr _ _ ?_;have:=YX.out;rw[<- rO,HUE.out] at this;exact this
    clear rO;go_wp2;go_ret;obtain⟨os,h1,h2,h3⟩:=HF.out;exact⟨_,os,rfl,h1,h2,h3⟩
theorem WA {w w2 w3:World} {sb base:Nat} {TS TT:TypeId} {arr:Array Value} {av v':Value} {n:Nat} {xs:List Value} (hg:GB w3 sb TS (arr.setIfInBounds 14 av)) (ho:w3.ownsRow base TT 2 v' n xs) (h2:Below w.heap.size w w2) (h4:Kept (fun b=>av.ownBlock≠some b) w2 w3) (hne:TT≠TS) :
  GB (w3.setCell (aD sb 14) v') sb TS (arr.setIfInBounds 14 v')/\(w3.setCell (aD sb 14) v').ownsRow base TT 2 v' n xs/\Kept (fun b=>b≠sb/\av.ownBlock≠some b) w (w3.setCell (aD sb 14) v'):=by
 refine⟨?_,?_,?_⟩
 ·have:=hg.set 14 v'
  rwa [XT] at this
 ·exact Zx ho (s:=fun b=>b≠sb) (Zv _ _ _ (fun h=>h rfl)) (fun g e h=>XR ho hg hne (h ▸ e))
 ·exact ((Q9 h2 (fun _ h _=>h)).trans (h4.mono (fun b _ h=>h.2))).trans (Zv _ _ _ (fun h=>h.1 rfl))
theorem WB {W:World} {B:Nat} {v u:Value} (h:GB W B 143 #[v,u]):(loadVar 143 (aD B 0)).run Tryz.prog W=.ok (.agg #[v,u]) W:=by
 obtain⟨c0,c1⟩:=h.k2;simp[go_sem,c0,c1]
theorem SA (sb base i:Nat) (arr:Array Value) (av:Value) (ag:List bg) (w:World) (hg:GB w sb 102 arr) (h14:arr[14]? = some av) (hown:w.ownsRow base 143 2 av ag.length (ag.flatMap dA)) (hl:ag.length<=1000000) (hi:i<ag.length) :
  Calls Tryz.prog 77 #[.pointer (some (aD sb 14)),.int .i64 (i:Int)] w fun e w'=>e=.returned (.agg #[.int .u64 ((ag.getD i (0,0)).1:Int),.int .u64 ((ag.getD i (0,0)).2:Int)])/\∃ av',GB w' sb 102 (arr.setIfInBounds 14 av')/\w'.ownsRow base 143 2 av' (ag.eraseIdx i).length ((ag.eraseIdx i).flatMap dA)/\Kept (fun b=>b≠sb/\av.ownBlock≠some b) w w'/\av'.ownBlock=av.ownBlock:=by
 obtain⟨hsz,ajI⟩:=QI.1 h14;have harr:arr.setIfInBounds 14 av=arr:=by
  rw[<- ajI];simp[Array.setIfInBounds,hsz]
 have hg':GB w sb 102 (arr.setIfInBounds 14 av):=by rw[harr]; exact hg
 obtain⟨aa,ac,rfl,OC⟩:=rX hown hl;obtain⟨tb,aeI,htb,hc0,hc1⟩:=OC.2 i hi;rcases hown.2 with⟨_,h0⟩ | ⟨g,cap,cur,hs,hbg,-⟩
 ·omega
 injection hs with hs1 _ hs2;subst hs1 hs2;injection htb with htb;injection htb with apc apd;subst apc apd;obtain⟨m,hm⟩:∃ m,ag.length=i+1+m:=⟨ag.length-(i+1),by omega⟩
 have hel:(ag.eraseIdx i).length=i+m:=by rw[List.length_eraseIdx_of_lt hi]; omega
 have YP:=Zh (XR hown hg (by decide));have c14:=(hg.cell 14).trans h14;have hgl:=(Zy hown rfl).2;obtain⟨w1,hw1,hb1,hx1⟩:=bu w #[.int .u64 0,.int .u64 0] 143;have d14:=cB hb1 c14;rw[hm] at d14;have e0:=cB hb1 hc0;have e1:=cB hb1 hc1;rw[QE] at e0 e1;obtain⟨tl,htl⟩:∃ x,x=(ag.getD i (0,0)).1:=⟨_,rfl⟩
 obtain⟨tr,htr⟩:∃ x,x=(ag.getD i (0,0)).2:=⟨_,rfl⟩
 rw[<- htl] at e0 ⊢;rw[<- htr] at e1 ⊢;obtain⟨w2,hw2,hb2,hx2⟩:=bu w1 #[.int .u64 (tl:Int),.int .u64 (tr:Int)] 143;have uH:=hb1.trans (hb2.mono hb1.size);have s14:=cB hb2 d14;have hown2:=Z0 hown uH;have hDE:=IG base g ac i m (ag.flatMap dA) w2 (by rw[hm] at hown2; exact hown2) (Av ag) (by omega);rw[Vt] at hDE;have hlt1:=hx1.lt;have ajJ:=hg.lt;have HG2:=Zh (hg'.keep (Q9 (s:=fun b=>b<w.heap.size) uH (fun _ h _=>h)) hg.lt);have HX2:=Zh hx2;have HX1:=Zh (hx1.keep (Q9 (s:=fun b=>b<w1.heap.size) hb2 (fun _ h _=>h)) hx1.lt);have apf:=Zh uH;have ug:=Zh hsz;have Ka:Hid (g<w.heap.size):=hgl;have Jr:Hid (sb<w.heap.size/\w.heap.size<w1.heap.size):=⟨ajJ,hlt1⟩
 rw[hel];have h1:(i:Int)<(i:Int)+1+(m:Int):=by omega
 have hwr:wrap64 ((i:Int)+1)=(i:Int)+1:=by unfold wrap64; omega
 clear hb1 hb2 uH hx1 hx2 hown hown2 OC hc0 hc1 hm hel hg hg' harr ajI h14 c14 hsz hi hl hgl hlt1 ajJ htl htr hbg;generalize (ag.eraseIdx i).flatMap dA=FX at *;go_enter Tryz.func77,Tryz.ntmps77;go_wp2_with fail;refine hDE.mono ?_;rintro e w3 ⟨rfl,ho3,hk3⟩;have hg3:=HG2.out.keep hk3 (fun e=>YP.out (by rw[e]; rfl));have c3:w3.cell? (aD sb 14)=some (.slice (some (aD g 0)) ag.length ac):=by rw[hg3.cell 14,XL,Qr rfl,Qr ug.out]
 have f3:=hg3.frozen 14;clear hDE hw1 hw2 d14 e0 e1 s14;go_upto_region 3 with fail;obtain⟨w4,hw4⟩:∃ x,x=w3.setCell (aD sb 14) (.slice (some (aD g 0)) (i+m) ac):=⟨_,rfl⟩
 have lT:Kept (fun b=>b≠sb) w3 w4:=by rw[hw4]; exact Zv _ _ _ (fun h=>h rfl)
 have hx4:=(HX2.out.keep hk3 (by have:=Ka.out; have:=Jr.out; omega)).keep lT (by have:=Jr.out; omega);have hy4:=(HX1.out.keep hk3 (by have:=Ka.out; omega)).keep lT (by have:=Jr.out; omega);have HE:=WA hg3 ho3 apf.out (hk3.mono (fun b _ h e=>h (by rw[e]; rfl))) (by decide:143≠102);rw[<- hw4] at HE ⊢;obtain⟨x0,x1⟩:=hx4.k2;obtain⟨y0,y1⟩:=hy4.k2;have z0:=hy4.frozen 0;have z1:=hy4.frozen 1;obtain⟨w5,uL⟩:∃ x,x=(w4.setCell (aD w.heap.size 0) (.int .u64 (tl:Int))).setCell (aD w.heap.size 1) (.int .u64 (tr:Int)):=⟨_,rfl⟩
 have abG:Kept (fun b=>b≠w.heap.size) w4 w5:=by rw[uL]; exact (Zv _ _ _ (fun h=>h rfl)).trans (Zv _ _ _ (fun h=>h rfl))
 have hg5:GB w5 w.heap.size 143 #[.int .u64 (tl:Int),.int .u64 (tr:Int)]:=by rw[uL]; exact (hy4.set 0 _).set 1 _
 have yT:=Zh (WB hg5);have HF:Hid (GB w5 sb 102 (arr.setIfInBounds 14 (.slice (some (aD g 0)) (i+m) ac))/\w5.ownsRow base 143 2 (.slice (some (aD g 0)) (i+m) ac) (i+m) FX/\Kept (fun b=>b≠sb/\(Value.slice (some (aD g 0)) ag.length ac).ownBlock≠some b) w w5):=⟨HE.1.keep abG (by have:=Jr.out; omega),Zx HE.2.1 abG (fun g' e=>by have e2:g=g':=XX e; have:=Ka.out; omega),HE.2.2.trans' abG (fun b hb _=>Nat.ne_of_lt hb)⟩
 have HW5:=Zh uL;clear hw4 uL hx4 hy4 HE lT abG hg5 hk3 ho3 hg3 c3 f3;go_wp2;rw[<- HW5.out];exact Xi (iL (p:=4) rfl rfl yT.out) rfl ⟨rfl,_,HF.out.1,HF.out.2.1,HF.out.2.2,rfl⟩
theorem Nz (ao:Option Addr) (n cap:Nat) (pick:Int) (w:World) (h0:0<n) (hn:n<4611686018427387904) :
  Calls Tryz.prog 75 #[.slice ao n cap,.int .i64 pick] w fun e w'=>e=.returned (.int .i64 (ek n pick))/\w' = w:=by
 have h1:-(n:Int)<pick.tmod n/\pick.tmod n<n:=⟨Int.lt_tmod_of_pos pick (by omega),Int.tmod_lt_of_pos pick (by omega)⟩
 have HR:Hid (ek n pick=(pick.tmod n+n).tmod n):=rfl;generalize ek n pick=R at *;obtain⟨m,hm⟩:∃ m,pick.tmod n=m:=⟨_,rfl⟩
 rw[hm] at h1 HR;have hw:wrap64 (m+n)=m+n:=by unfold wrap64; omega
 obtain⟨m2,hm2⟩:∃ m2,(m+(n:Int)).tmod n=m2:=⟨_,rfl⟩
 rw[hm2] at HR;have h3:-(n:Int)<m2/\m2<n:=by rw[<- hm2]; exact⟨Int.lt_tmod_of_pos _ (by omega),Int.tmod_lt_of_pos _ (by omega)⟩
 have hwa:wrap64 m=m:=by unfold wrap64; omega
 clear h1 h3;go_enter Tryz.func75,Tryz.ntmps75;go_wp2;go_ret;exact⟨Qe (by rw[HR.out]),rfl⟩
theorem NA (x:ah) (k:Nat) (w:World) (hx:x.At w) (hk:k<4611686018427387904) :
  Calls Tryz.prog 41 #[x.val,.int .i64 (k:Int)] w fun e w'=>e=.returned (.int .i64 (fG x.xs k))/\w' = w:=by
 obtain⟨ad,cap,xs⟩:=x;have hl:=hx.1;simp only at hl;by_cases h0:xs.length=0
 ·have hR:fG xs k=0:=by unfold fG; rw[Qr h0]
  simp only[hR,ah.val];rw[h0];clear hR hx h0 hl;go_enter Tryz.func41,Tryz.ntmps41;go_wp2;go_ret;exact⟨rfl,rfl⟩
 ·have hR:fG xs k=xs.getD (k % xs.length) 0:=by unfold fG; rw[Qs h0]
  have hlt:k % xs.length<xs.length:=Nat.mod_lt _ (by omega);obtain⟨b,off,e,hc⟩:=au.get hx hlt;have hcc:=hc _ hlt;simp only at e;subst e;simp only[hR,ah.val];generalize xs.getD (k % xs.length) 0=v at *;have hmod:Int.tmod (k:Int) (xs.length:Int)=((k % xs.length:Nat):Int):=by
   rw[Xg (by omega)];rfl
  have hne:((xs.length:Int)==0)=false:=by rw[Bool.eq_false_iff]; intro h; exact h0 (by have:=eq_of_beq h; omega)
  generalize k % xs.length=m at *;have hm1:(m:Int)<(xs.length:Int):=by omega
  clear hR hc hx;go_enter Tryz.func41,Tryz.ntmps41;go_wp2;go_ret;exact⟨rfl,rfl⟩
