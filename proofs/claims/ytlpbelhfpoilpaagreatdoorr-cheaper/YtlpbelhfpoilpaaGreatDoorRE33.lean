import Derived.Test.YtlpbelhfpoilpaaGreatDoorRE32
set_option linter.all false
set_option maxRecDepth 100000
set_option maxHeartbeats 16000000
namespace Go.Proofs.Zz
open Go.RowKit Go.Shelf
variable {ls:List (List Int)} {ts:List af} {q:ae} {f:au} {W0 w:World} {F:Nat->Prop} {v:Value}
theorem wF(ls:List (List Int))(l:List Int):(iE ls l).length<=ls.length+1:=by
 unfold iE;split <;> simp
theorem Aj{l:List Int}(h:∃ r,ls=[]::r):∃ r,iE ls l=[]::r:=by
 obtain⟨r,rfl⟩:=h;unfold iE;split
 ·exact⟨r,rfl⟩
 ·exact⟨r++[l],rfl⟩
theorem iU(ts:List af)(q:ae)(s:Nat)(acc:List (List Int))(c:Int):(bI ts q s acc c).length<=acc.length+1:=by
 unfold bI;split
 ·exact wF _ _
 ·omega
theorem yn{s:Nat}{acc:List (List Int)}(c:Int)(h:∃ r,acc=[]::r):∃ r,bI ts q s acc c=[]::r:=by
 unfold bI;split
 ·exact Aj h
 ·exact h
theorem FT(ts:List af)(q:ae)(s:Nat):∀ (l:List aH) (acc:List (List Int)),(∃ r,acc=[]::r)->(∃ r,l.foldl (iA ts q s) acc=[]::r)/\(l.foldl (iA ts q s) acc).length<=acc.length+2*l.length
 | [],acc,h => ⟨h,by simp⟩
 | c::l,acc,h => by
  have hs:(∃ r,iA ts q s acc c=[]::r)/\(iA ts q s acc c).length<=acc.length+2:=by
   unfold iA;split
   ·refine⟨yn _ (yn _ h),?_⟩;have h1:=iU ts q s acc (bF c.cs).1;have h2:=iU ts q s (bI ts q s acc (bF c.cs).1) (bF c.cs).2.1;omega
   ·exact⟨h,by omega⟩
  have:=FT ts q s l _ hs.1;refine⟨this.1,Zl this.2 ?_⟩;simp only[Zg];omega
theorem CQ(ts:List af)(q:ae)(s:Nat)(h8:q.wh.length<=8):(∃ r,dU ts q s=[]::r)/\(dU ts q s).length<=18:=by
 have h0:∃ r,(if aS s (bE (fo ts q (aM q)))=true then iE [[]] (aM q) else [[]])=[]::r:=by
  split
  ·exact Aj ⟨[],rfl⟩
  ·exact⟨[],rfl⟩
 have h1:(if aS s (bE (fo ts q (aM q)))=true then iE [[]] (aM q) else [[]]).length<=2:=by
  split
  ·exact wF _ _
  ·simp
 have:=FT ts q s q.wh _ h0;exact⟨this.1,Zl this.2 (by omega)⟩
theorem Env.alS(E:Env f ts q W0):gB ts q (aM q):=by
 unfold aM;split
 ·exact E.keys
 ·rename_i hg
  split
  ·exact E.want (by simpa using hg)
  ·intro c hc; cases hc
theorem iI.fz{Tl:TypeId}{base:Nat}{os:List ah}(h:iI Tl F base w v os)(hz:Fz F W0 w)(hb:W0.heap.size<=base):Fz (Fv F v) W0 w:=hz.own fun g e=>⟨Zl hb (ZO h.own e).1,(ZO h.own e).2⟩
theorem yt{cb:Nat}{c:Int}(hc:w.cell? (aD cb 0)=some (.int .i64 c))(hF:F cb):IntsIn F w ⟨some (aD cb 0),1,[c]⟩:=
 ⟨⟨by simp,fun i hi=>⟨cb,0,rfl,by
  have:i=0:=by simpa using hi
  subst this;exact hc⟩⟩,fun _ a e=>by cases e; exact hF,(fun e=>by cases e),Qx _⟩
theorem rf{w':World}(hk:Kept (fun b=>v.ownBlock≠some b) w w'){b o:Nat}{u:Value}(h:w.cell? (aD b o)=some u)(hs:v.ownBlock≠some b):w'.cell? (aD b o)=some u:=by
 rw[Zw (hk.block b (Zv h) hs)];exact h
def fO(F:Nat->Prop)(w1:World)(ls:List (List Int))(v:Value)(w':World):Prop:=∃ os,iI 23 F w1.heap.size w' v os/\os.map ah.xs=ls/\os.length<=100/\Bw w1 w'
theorem ahG{w1:World}(h:fO F w1 ls v w)(hl:ls.length<=50)(o:ah)(ho:IntsIn (Fv F v) w o)(hol:o.xs.length<=1000) :
  Calls Tryz.prog 232 #[v,.slice o.ad o.xs.length o.cap] w fun e w'=>∃ v',e=.returned v'/\(∃ a m c,v' = .slice a m c)/\fO F w1 (iE ls o.xs) v' w'/\Kept (fun b=>v.ownBlock≠some b) w w'/\(v'.ownBlock=v.ownBlock∨∃ g,v'.ownBlock=some g/\w.heap.size<=g):=by
 obtain⟨os,h1,h2,h3,h4⟩:=h;have hlen:os.length<=50:=by have:=congrArg List.length h2; rw[Zc]at this; omega
 refine(UU h1 h4.size o ho hol (by omega)).mono ?_;rintro e w' ⟨v',os',rfl,g1,g2,g3,g4,g5⟩;exact⟨v',rfl,ZP g1.own,⟨os',g1,by rw[g2,h2],by omega,h4.trans (g4.below h4.size (fun b hb e=>by have:=(ZO h1.own e).1; omega))⟩,g4,g5⟩
theorem fO.below{F:Nat->Prop}{w1 w w':World}{ls:List (List Int)}{v:Value}(h:fO F w1 ls v w)(hb:Bw w w'):fO F w1 ls v w':=by
 obtain⟨os,h1,h2,h3,h4⟩:=h;exact⟨os,h1.below hb,h2,h3,aA h4 hb⟩
theorem zB(E:Env f ts q W0)(hz:Fz F W0 w)(s:Nat)(hs:s<18446744073709551616) :
  Calls Tryz.prog 160 #[.agg (f.cells ts q),.int .u64 (s:Int)] w fun e w'=>∃ v os,e=.returned v/\iI 23 F w.heap.size w' v os/\os.map ah.xs=dU ts q s/\Bw w w':=by
 obtain⟨v0,v1,v2,v3,v4,v5,v6,v7,v8,v9,v10,v11,v12,bB,hv0,hv1,hv2,hv3,hv4,hv5,hv6,-⟩:=Xu f ts q;subst hv1;have uW:q.cells=#[v0,.slice q.bY q.wh.length q.aI,v2,v3,v4,v5,v6]:=by rw[hv0,hv2,hv3,hv4,hv5,hv6]; rfl
 have HEO:Hid (∀ (G:Nat->Prop) x,Fz G W0 x->Calls Tryz.prog 230 #[.agg #[v0,.slice q.bY q.wh.length q.aI,v2,v3,v4,v5,v6]] x (Cq G x (aM q))):=fun G x hx=>by
  rw[<- uW];exact xP E hx
 have uS:Hid (∀ (x:World) (iv:ah),Bw w x->iv.At x->gB ts q iv.xs->Cb 196 #[.agg #[v0,.slice q.bY q.wh.length q.aI,v2,v3,v4,v5,v6,v7,v8,v9,v10,v11,v12],.slice iv.ad iv.xs.length iv.cap] x (.int .u64 ((bE (fo ts q iv.xs):Nat):Int))):=fun x iv hx hi hc=>by
  rw[<- bB];exact pg f ts q iv.ad iv.cap iv.xs x E.ok ((E.at' hz).below hx).aO hi hc
 have Ym:Hid (∀ (xs:List Int) (x:World),gB ts q xs->Ce 231 #[.int .u64 (s:Int),.int .u64 ((bE (fo ts q xs):Nat):Int)] x (.bool (aS s (bE (fo ts q xs))))):=fun xs x hc=>lN s _ hs (by have:=RJ E.ok hc xs.length; rwa [QA]at this) x
 have HEC:Hid (∀ (k:Nat) (x:World),k<q.wh.length->Bw w x->x.cell? ⟨(q.bY.getD (aD 0 0)).block,(q.bY.getD (aD 0 0)).off+k,none⟩=some (.slice (q.wh.getD k lz).ad (q.wh.getD k lz).cs.length (q.wh.getD k lz).cap)/\(∃ b off,q.bY=some (aD b off))/\Cb 233 #[.agg #[.slice (q.wh.getD k lz).ad (q.wh.getD k lz).cs.length (q.wh.getD k lz).cap]] x (.tuple #[.int .i64 (bF (q.wh.getD k lz).cs).1,.int .i64 (bF (q.wh.getD k lz).cs).2.1,.bool (bF (q.wh.getD k lz).cs).2.2])):=fun k x hk hx=>by
  have hq:=((E.at' hz).below hx).query.wh;obtain⟨b,off,e,hc⟩:=hq.2.1 k hk;refine⟨?_,⟨b,off,e⟩,qh _ _ _ x (hq.2.2 k hk) (E.ok.some k hk)⟩;rw[e];exact hc
 have HEK:Hid (∀ k,k<q.wh.length->(bF (q.wh.getD k lz).cs).2.2=true->gB ts q [(bF (q.wh.getD k lz).cs).1]/\gB ts q [(bF (q.wh.getD k lz).cs).2.1]):=fun k hk h=>FO E.ok hk h
 obtain⟨I0,hI0⟩:∃ I,I=(if aS s (bE (fo ts q (aM q)))=true then iE [[]] (aM q) else [[]]):=⟨_,rfl⟩
 have ayS:I0.length<=2:=by
  rw[hI0];split
  ·exact wF _ _
  ·simp
 obtain⟨UK,hUK⟩:∃ U:Nat->List (List Int),U=fun k=>(q.wh.take k).foldl (iA ts q s) I0:=⟨_,rfl⟩
 have HST:Hid (∀ k,k<q.wh.length->UK (k+1)=iA ts q s (UK k) (q.wh.getD k lz)):=fun k hk=>by rw[hUK]; exact iR _ I0 q.wh lz hk
 have HUL:Hid (∀ k,(UK k).length<=2+2*k):=fun k=>by
  have key:∀ (l:List aH) (acc:List (List Int)),(l.foldl (iA ts q s) acc).length<=acc.length+2*l.length:=by
   intro l
   induction l with
   | nil => intro acc; simp
   | cons c l ih =>
    intro acc;refine Zl (ih _) ?_;have:(iA ts q s acc c).length<=acc.length+2:=by
     unfold iA;split
     ·have h1:=iU ts q s acc (bF c.cs).1;have h2:=iU ts q s (bI ts q s acc (bF c.cs).1) (bF c.cs).2.1;omega
     ·omega
    simp only[Zg];omega
  rw[hUK];refine Zl (key _ _) ?_;rw[Zm];omega
 have HU0:Hid (UK 0=I0):=by show _=_; rw[hUK]; rfl
 have HUE:Hid (UK q.wh.length=dU ts q s):=by
  show _=_
  rw[hUK]
  show (q.wh.take q.wh.length).foldl _ _=_
  rw[QA,hI0];rfl
 have hwl:=E.eight;have OM:Hid (gB ts q (aM q)/\(aM q).length<=4):=⟨E.alS,E.Yu⟩
 have HI0:=Zh hI0;obtain⟨w1,hw1,hb1,hg1⟩:=aU w #[v0,.slice q.bY q.wh.length q.aI,v2,v3,v4,v5,v6,v7,v8,v9,v10,v11,v12] 90;obtain⟨w2,hw2,hb2,hx2⟩:=aU w1 #[.slice none 0 0] 23;have HS2:Hid (fO F w1 [[]] (.slice (some (aD w1.heap.size 0)) 1 1) w2):=⟨[fC],⟨⟨rfl,.inr ⟨w1.heap.size,1,#[.slice none 0 0],rfl,Qx _,hx2,Qx _,by unfold maxLen; omega,rfl,rfl⟩⟩,fun o ho=>by rw[ZR]at ho; rw[ho]; exact⟨IntsIn.fC _ _,Q8 _⟩⟩,rfl,by simp,hb2⟩
 have Ky:Hid (∀ (x:World) (v:Value) (ls:List (List Int)),fO F w1 ls v x->Fz (Fv F v) W0 x/\Bw w x/\Bw w1 x/\(∀ g,v.ownBlock=some g->g<x.heap.size)):=fun x v ls h=>by
  obtain⟨os,h1,h2,h3,h4⟩:=h;have hbx:=aA hb1 h4;have:=h1.fz (hz.next hbx) (Zl hz.below.size hb1.size);exact⟨this,hbx,h4,fun g e=>(ZO h1.own e).2⟩
 have HFB:Hid (∀ (x:World),Bw w1 x->GB x w.heap.size 90 #[v0,.slice q.bY q.wh.length q.aI,v2,v3,v4,v5,v6,v7,v8,v9,v10,v11,v12]):=fun x hx=>hg1.keep (Zo (s:=fun b=>b<w1.heap.size) hx (fun _ h _=>h)) hg1.lt
 have hf2:=HFB.o w2 hb2;obtain⟨a0,a1,a2,a3,a4,a5,a6,a7,a8,a9,iy,iL,a12⟩:=hf2.k13;have hEO:=HEO.o _ w2 (Ky.o w2 _ _ HS2.o).1;have afo:Hid (∀ (x:World) (v:Value) (ls:List (List Int)),fO F w1 ls v x->∃ os,iI 23 F w.heap.size x v os/\os.map ah.xs=ls/\Bw w x):=fun x v ls h=>by
  obtain⟨os,h1,h2,h3,h4⟩:=h;exact⟨os,⟨mX h1.own hb1.size,h1.each⟩,h2,aA hb1 h4⟩
 rw[bB];clear bB uW hv0 hv2 hv3 hv4 hv5 hv6 hI0 hUK hz hb1 hg1 hb2 hx2 hf2 E;generalize dU ts q s=R at *;generalize aM q=EO at *;go_enter Tryz.func160,Tryz.ntmps160;go_wp2_with fail;refine hEO.mono ?_;rintro e w3 ⟨iv,rfl,pJ,hin,hb3⟩;obtain⟨ea,ec,ex⟩:=iv;simp only[ah.val]at pJ ⊢;subst pJ;have hS3:=HS2.o.below hb3;have ahH:=Ky.o w3 _ _ hS3;have hf3:=HFB.o w3 ahH.2.2.1;clear a0 a1 a2 a3 a4 a5 a6 a7 a8 a9 iy iL a12;obtain⟨a0,a1,a2,a3,a4,a5,a6,a7,a8,a9,iy,iL,a12⟩:=hf3.k13;have AZ:=uS.o w3 ⟨ea,ec,ex⟩ ahH.2.1 hin.at' OM.o.1;have RO:=hd hS3;have arW:=hd hin;have Lb:=fun x=>Ym.o ex x OM.o.1
 clear hEO hS3 ahH hf3 hin hb3 hw1 hw2;generalize bE (fo ts q ex)=se at *;obtain⟨el,hel⟩:∃ n,n=ex.length:=⟨_,rfl⟩
 have HEL:=hd hel;simp only at AZ;rw[<- hel]at AZ ⊢;clear hel;go_wp2_with fail;refine AZ.mono ?_;rintro e w4 ⟨rfl,hb4⟩;have Lc:=Lb w4;have HS4:=Zh (RO.o.below hb4);have arX:=Zh (arW.o.below hb4);clear AZ hb4 Lb;go_wp2_with fail;refine Lc.mono ?_;rintro e wz ⟨rfl,hwz⟩;have pI:=hwz.symm;subst pI;clear Lc a0 a1 a2 a3 a4 a5 a6 a7 a8 a9 iy iL a12;generalize aS s se=CB0 at *
 cases CB0 with
 | true =>
  have FH:=ahG HS4.o (by simp) ⟨ea,ec,ex⟩ arX.o (by show ex.length<=1000; have:=OM.o.2; omega);simp only at FH;rw[<- HEL.o]at FH;go_wp2_with fail;refine FH.mono ?_;rintro e w5 ⟨v',rfl,⟨ra,rm,rc,rfl⟩,hst,-⟩;have MN:Hid (fO F w1 (UK 0) (.slice ra rm rc) w5):=by show fO _ _ _ _ _; rw[HU0.o,HI0.o]; exact hst
  have aab:=Ky.o w5 _ _ MN.o;have K4:=HFB.o w5 aab.2.2.1;clear FH hst;obtain⟨a0,a1,a2,a3,a4,a5,a6,a7,a8,a9,iy,iL,a12⟩:=K4.k13;clear K4 aab;go_wp2;go_loopw [5,30] (fun pv xv wr=>∃ k:Nat,k<=q.wh.length/\xv=.int .i64 (k:Int)/\(∃ a m c,pv=.slice a m c)/\Hid (fO F w1 (UK k) pv wr)) (fun _ xv _=>q.wh.length-(intOf xv).toNat)
  case atStart=>exact⟨0,Q8 _,rfl,⟨_,_,_,rfl⟩,MN.o⟩
  case round=>
   obtain⟨k,hk,rfl,⟨pa,pm,pc,rfl⟩,HSK⟩:=hrel;by_cases hlt:k<q.wh.length
   ·have hfz:=Ky.o wr _ _ HSK.o;obtain⟨hcell,⟨kb,yl,O9⟩,hEC⟩:=HEC.o k wr hlt hfz.2.1;have Pb:=fun x (hx:Bw w x)=>(HEC.o k x hlt hx).2.2
    have pq:=HST.o k hlt;have Ho:=HEK.o k hlt;have arY:=HUL.o k;rw[O9]at hcell ⊢;clear O9;change wr.cell? (aD kb (yl+k))=some (.slice (q.wh.getD k lz).ad (q.wh.getD k lz).cs.length (q.wh.getD k lz).cap) at hcell;unfold iA at pq;generalize bF (q.wh.getD k lz).cs=EC at *;obtain⟨c1,c2,c3⟩:=EC;simp only at Pb pq Ho hEC;generalize (q.wh.getD k lz).ad=ca at *;generalize (q.wh.getD k lz).cs.length=cl at *;generalize (q.wh.getD k lz).cap=cc at *;obtain⟨y1,hy1⟩:∃ x,wr.alloc (.cells #[.slice ca cl cc] 132)=x:=⟨_,rfl⟩
    have hd1:Bw wr y1:=by rw[<- hy1]; exact dn _ _
    have b0:y1.cell? (aD wr.heap.size 0)=some (.slice ca cl cc):=by rw[<- hy1]; simp
    have aac:=Pb y1 (aA hfz.2.1 hd1);have pO:=Zh (HSK.o.below hd1);clear hd1 hEC Pb hfz;obtain⟨wl,arZ⟩:∃ n,n=q.wh.length:=⟨_,rfl⟩
    go_wp2_with fail;refine aac.mono ?_;rintro e y2 ⟨rfl,hb2⟩;have Pd:=Zh (pO.o.below hb2);clear aac hy1 b0 hcell hb2
    cases c3 with
    | false =>
     have oz:=hd pq;clear pq Ho;go_wp2;go_roundw
     case rel=>exact⟨k+1,by omega,by go_num,⟨_,_,_,rfl⟩,by show fO _ _ _ _ _; rw[oz.o]; exact Pd.o⟩
     case measure=>simp[intOf]; omega
    | true =>
     obtain⟨hk1,hk2⟩:=Ho rfl;have zC:gB ts q [c1,c2]:=fun c hc=>by
      rcases Q4.1 hc with rfl | hc
      ·exact hk1 _ Xg
      ·exact hk2 c hc
     have sZ:=Ky.o y2 _ _ Pd.o;obtain⟨y3,hy3,hd3,hx3⟩:=aU y2 #[.int .i64 c1,.int .i64 c2] 3;have AZ:=uS.o y3 ⟨some (aD y2.heap.size 0),2,[c1,c2]⟩ (aA sZ.2.1 hd3) ⟨by simp,fun i hi=>⟨y2.heap.size,0,rfl,by
      rw[QQ];have hi':i<2:=hi
      match i,hi' with
      | 0,_ => exact hx3.cell 0
      | 1,_ => exact hx3.cell 1⟩⟩ zC
     change Calls Tryz.prog 196 #[.agg #[v0,.slice q.bY q.wh.length q.aI,v2,v3,v4,v5,v6,v7,v8,v9,v10,v11,v12],.slice (some (aD y2.heap.size 0)) 2 2] y3 _ at AZ;have hf2:=HFB.o y2 sZ.2.2.1;obtain⟨a0,a1,a2,a3,a4,a5,a6,a7,a8,a9,iy,iL,a12⟩:=hf2.k13;have RO:=Zh (Pd.o.below hd3);have Lb:=fun x=>Ym.o [c1,c2] x zC
     have oG:Hid (gB ts q [c1]/\gB ts q [c2]):=⟨hk1,hk2⟩
     clear hf2 hd3 hx3 sZ hk1 hk2 zC Ho;generalize bE (fo ts q [c1,c2])=s12 at *;go_wp2_with fail;refine AZ.mono ?_;rintro e y4 ⟨rfl,hb4⟩;have HS4:=Zh (RO.o.below hb4);have Lc:=Lb y4;clear AZ hb4 hy3 Lb a0 a1 a2 a3 a4 a5 a6 a7 a8 a9 iy iL a12;go_wp2_with fail;refine Lc.mono ?_;rintro e yz ⟨rfl,hyz⟩;have ahI:=hyz.symm;subst ahI;clear Lc;generalize aS s s12=CB at *
     cases CB with
     | true =>
      have oz:=hd pq;clear pq;go_wp2;go_roundw
      case rel=>exact⟨k+1,by omega,by go_num,⟨_,_,_,rfl⟩,by show fO _ _ _ _ _; rw[oz.o]; exact HS4.o⟩
      case measure=>simp[intOf]; omega
     | false =>
      have oz:=hd pq;obtain⟨y5,hy5,hd5,hx5⟩:=aU y4 #[.int .i64 c1,.int .i64 c2] 3;have HI5:Hid (fO F w1 (UK k) (.slice pa pm pc) y5/\y5.cell? (aD y4.heap.size 0)=some (.int .i64 c1)/\y5.cell? (aD y4.heap.size 1)=some (.int .i64 c2)/\(Value.slice pa pm pc).ownBlock≠some y4.heap.size):=⟨HS4.o.below hd5,hx5.cell 0,hx5.cell 1,fun e=>by have:=(Ky.o y4 _ _ HS4.o).2.2.2 _ e; omega⟩
      obtain⟨lb,hlb⟩:∃ b,b=y4.heap.size:=⟨_,rfl⟩
      rw[<- hlb]at HI5;obtain⟨UC,hUC⟩:∃ U:Nat->List (List Int),U=fun j=>if j=0 then UK k else if j=1 then bI ts q s (UK k) c1 else bI ts q s (bI ts q s (UK k) c1) c2:=⟨_,rfl⟩
      have HU:Hid (UC 0=UK k/\UC 1=bI ts q s (UC 0) c1/\UC 2=bI ts q s (UC 1) c2/\UC 2=UK (k+1)):=by rw[hUC]; exact⟨rfl,rfl,rfl,oz.o.symm⟩
      have ahK:Hid (∀ j,(UC j).length<=40):=fun j=>by
       have h1:=iU ts q s (UK k) c1;have h2:=iU ts q s (bI ts q s (UK k) c1) c2;rw[hUC]
       show (if j=0 then UK k else if j=1 then bI ts q s (UK k) c1 else bI ts q s (bI ts q s (UK k) c1) c2).length<=40
       split
       ·omega
       ·split <;> omega
      have ar1:=Zh hlb.symm;clear hd5 hx5 pq hUC;go_wp2;rw[<- hlb]at *;clear hy5;go_loopw [5,55] (fun pv xv wx=>∃ j:Nat,j<=2/\xv=.int .i64 (j:Int)/\(∃ a m c,pv=.slice a m c)/\Hid (fO F w1 (UC j) pv wx/\wx.cell? (aD lb 0)=some (.int .i64 c1)/\wx.cell? (aD lb 1)=some (.int .i64 c2)/\pv.ownBlock≠some lb)) (fun _ xv _=>2-(intOf xv).toNat)
      case atStart=>exact⟨0,by omega,rfl,⟨_,_,_,rfl⟩,by show fO _ _ _ _ _/\_; rw[HU.o.1]; exact HI5.o⟩
      case round=>
       obtain⟨j,hj,rfl,⟨qa,qm,qc,rfl⟩,HJ⟩:=hrel;by_cases hj2:j<2
       ·have hcj:∃ ig,wr.cell? (aD lb j)=some (.int .i64 ig)/\gB ts q [ig]/\UC (j+1)=bI ts q s (UC j) ig:=by
         have ahL:j=0∨j=1:=by omega
         rcases ahL with rfl | rfl
         ·exact⟨c1,HJ.o.2.1,oG.o.1,HU.o.2.1⟩
         ·exact⟨c2,HJ.o.2.2.1,oG.o.2,HU.o.2.2.1⟩
        obtain⟨ig,kS,Pe,hnx⟩:=hcj;have La:=HJ.o;have hfz:=Ky.o wr _ _ La.1;have hf:=HFB.o wr hfz.2.2.1;obtain⟨a0,a1,a2,a3,a4,a5,a6,a7,a8,a9,iy,iL,a12⟩:=hf.k13;obtain⟨z1,hz1⟩:∃ x,wr.alloc (.cells #[.int .i64 ig] 3)=x:=⟨_,rfl⟩
        have hd1:Bw wr z1:=by rw[<- hz1]; exact dn _ _
        have hx1:z1.cell? (aD wr.heap.size 0)=some (.int .i64 ig):=by rw[<- hz1]; simp
        have Fw:=uS.o z1 ⟨some (aD wr.heap.size 0),1,[ig]⟩ (aA hfz.2.1 hd1) (yt (F:=fun _=>True) hx1 trivial).at' Pe;change Calls Tryz.prog 196 #[.agg #[v0,.slice q.bY q.wh.length q.aI,v2,v3,v4,v5,v6,v7,v8,v9,v10,v11,v12],.slice (some (aD wr.heap.size 0)) 1 1] z1 _ at Fw;have hCV:=fun x=>Ym.o [ig] x Pe
        have ahM:=Zh hd1;have HJB:Hid (∀ x,Bw wr x->fO F w1 (UC j) (.slice qa qm qc) x/\x.cell? (aD lb 0)=some (.int .i64 c1)/\x.cell? (aD lb 1)=some (.int .i64 c2)/\(Value.slice qa qm qc).ownBlock≠some lb):=fun x hx=>⟨La.1.below hx,cB hx La.2.1,cB hx La.2.2.1,La.2.2.2⟩
        unfold bI at hnx;have Hq:=Zh hnx;clear hf hfz hd1 hx1 Pe hnx La;generalize bE (fo ts q [ig])=sc at *;obtain⟨wq,hwq⟩:∃ x,x=wr:=⟨_,rfl⟩
        subst hwq;go_wp2_with fail;refine Fw.mono ?_;rintro e z2 ⟨rfl,hb2⟩;have Pf:=Zh (aA ahM.o hb2);have aad:=hCV z2;clear Fw hb2 hz1 hCV a0 a1 a2 a3 a4 a5 a6 a7 a8 a9 iy iL a12 kS;go_wp2_with fail;refine aad.mono ?_;rintro e zz ⟨rfl,hzz⟩;have ahO:=hzz.symm;subst ahO;clear aad;generalize aS s sc=CB2 at *
        cases CB2 with
        | false =>
         have HN3:Hid (UC (j+1)=UC j):=Hq.o;have HF:=Zh (HJB.o z2 Pf.o);clear Hq;go_wp2;go_roundw
         case rel=>exact⟨j+1,by omega,by go_num,⟨_,_,_,rfl⟩,by show fO _ _ _ _ _/\_; rw[HN3.o]; exact HF.o⟩
         case measure=>simp[intOf]; omega
        | true =>
         have HN3:Hid (UC (j+1)=iE (UC j) [ig]):=Hq.o;obtain⟨z3,hz3⟩:∃ x,z2.alloc (.cells #[.int .i64 ig] 3)=x:=⟨_,rfl⟩
         have hd3:Bw z2 z3:=by rw[<- hz3]; exact dn _ _
         have hx3:z3.cell? (aD z2.heap.size 0)=some (.int .i64 ig):=by rw[<- hz3]; simp
         have hJ3:=HJB.o z3 (aA Pf.o hd3);have hJ2:=HJB.o z2 Pf.o;have sZ:=Ky.o z2 _ _ hJ2.1;have FH:=ahG hJ3.1 (by have:=ahK.o j; omega) ⟨some (aD z2.heap.size 0),1,[ig]⟩ (yt hx3 (sZ.1.high _ (Qx _))) (by simp);change Calls Tryz.prog 232 #[.slice qa qm qc,.slice (some (aD z2.heap.size 0)) 1 1] z3 _ at FH;have Bd:=Zh hJ3;clear Hq hd3 hx3 hJ3 hJ2 sZ;go_wp2_with fail;refine FH.mono ?_;rintro e z4 ⟨v',rfl,⟨ra,rm,rc,rfl⟩,hst,hk4,CP⟩;have HF:Hid (fO F w1 (UC (j+1)) (.slice ra rm rc) z4/\z4.cell? (aD lb 0)=some (.int .i64 c1)/\z4.cell? (aD lb 1)=some (.int .i64 c2)/\(Value.slice ra rm rc).ownBlock≠some lb):=by
          refine⟨by rw[HN3.o]; exact hst,rf hk4 Bd.o.2.1 Bd.o.2.2.2,rf hk4 Bd.o.2.2.1 Bd.o.2.2.2,fun e=>?_⟩;rcases CP with h | ⟨g,h,hg⟩
          ·exact Bd.o.2.2.2 (h ▸ e)
          ·rw[h]at e;injection e with e;have hlt3:lb<z3.heap.size:=Zv Bd.o.2.1;omega
         clear FH hst hk4 CP hz3;go_wp2;go_roundw
         case rel=>exact⟨j+1,by omega,by go_num,⟨_,_,_,rfl⟩,HF.o⟩
         case measure=>simp[intOf]; omega
       ·have hje:j=2:=by omega
        have HF:Hid (fO F w1 (UK (k+1)) (.slice qa qm qc) wr):=by
         have:=HJ.o.1;rw[hje,HU.o.2.2.2]at this;exact this
        clear hje;go_wp2;go_roundw
        case rel=>exact⟨k+1,by omega,by go_num,⟨_,_,_,rfl⟩,HF.o⟩
        case measure=>simp[intOf]; omega
   ·have tY:q.wh.length=k:=by omega
    have HF:Hid (∃ os,iI 23 F w.heap.size wr (.slice pa pm pc) os/\os.map ah.xs=R/\Bw w wr):=by
     refine afo.o wr _ _ ?_;have:=HSK.o;rw[<- tY,HUE.o]at this;exact this
    clear tY;go_wp2;go_ret;obtain⟨os,h1,h2,h3⟩:=HF.o;exact⟨_,os,rfl,h1,h2,h3⟩
 | false =>
  have MN:Hid (fO F w1 (UK 0) (.slice (some (aD w1.heap.size 0)) 1 1) w4):=by show fO _ _ _ _ _; rw[HU0.o,HI0.o]; exact HS4.o
  have aab:=Ky.o w4 _ _ MN.o;have K4:=HFB.o w4 aab.2.2.1;obtain⟨a0,a1,a2,a3,a4,a5,a6,a7,a8,a9,iy,iL,a12⟩:=K4.k13;clear K4 aab;go_wp2;go_loopw [5,30] (fun pv xv wr=>∃ k:Nat,k<=q.wh.length/\xv=.int .i64 (k:Int)/\(∃ a m c,pv=.slice a m c)/\Hid (fO F w1 (UK k) pv wr)) (fun _ xv _=>q.wh.length-(intOf xv).toNat)
  case atStart=>exact⟨0,Q8 _,rfl,⟨_,_,_,rfl⟩,MN.o⟩
  case round=>
   obtain⟨k,hk,rfl,⟨pa,pm,pc,rfl⟩,HSK⟩:=hrel;by_cases hlt:k<q.wh.length
   ·have hfz:=Ky.o wr _ _ HSK.o;obtain⟨hcell,⟨kb,yl,O9⟩,hEC⟩:=HEC.o k wr hlt hfz.2.1;have Pb:=fun x (hx:Bw w x)=>(HEC.o k x hlt hx).2.2
    have pq:=HST.o k hlt;have Ho:=HEK.o k hlt;have arY:=HUL.o k;rw[O9]at hcell ⊢;clear O9;change wr.cell? (aD kb (yl+k))=some (.slice (q.wh.getD k lz).ad (q.wh.getD k lz).cs.length (q.wh.getD k lz).cap) at hcell;unfold iA at pq;generalize bF (q.wh.getD k lz).cs=EC at *;obtain⟨c1,c2,c3⟩:=EC;simp only at Pb pq Ho hEC;generalize (q.wh.getD k lz).ad=ca at *;generalize (q.wh.getD k lz).cs.length=cl at *;generalize (q.wh.getD k lz).cap=cc at *;obtain⟨y1,hy1⟩:∃ x,wr.alloc (.cells #[.slice ca cl cc] 132)=x:=⟨_,rfl⟩
    have hd1:Bw wr y1:=by rw[<- hy1]; exact dn _ _
    have b0:y1.cell? (aD wr.heap.size 0)=some (.slice ca cl cc):=by rw[<- hy1]; simp
    have aac:=Pb y1 (aA hfz.2.1 hd1);have pO:=Zh (HSK.o.below hd1);clear hd1 hEC Pb hfz;obtain⟨wl,arZ⟩:∃ n,n=q.wh.length:=⟨_,rfl⟩
    go_wp2_with fail;refine aac.mono ?_;rintro e y2 ⟨rfl,hb2⟩;have Pd:=Zh (pO.o.below hb2);clear aac hy1 b0 hcell hb2
    cases c3 with
    | false =>
     have oz:=hd pq;clear pq Ho;go_wp2;go_roundw
     case rel=>exact⟨k+1,by omega,by go_num,⟨_,_,_,rfl⟩,by show fO _ _ _ _ _; rw[oz.o]; exact Pd.o⟩
     case measure=>simp[intOf]; omega
    | true =>
     obtain⟨hk1,hk2⟩:=Ho rfl;have zC:gB ts q [c1,c2]:=fun c hc=>by
      rcases Q4.1 hc with rfl | hc
      ·exact hk1 _ Xg
      ·exact hk2 c hc
     have sZ:=Ky.o y2 _ _ Pd.o;obtain⟨y3,hy3,hd3,hx3⟩:=aU y2 #[.int .i64 c1,.int .i64 c2] 3;have AZ:=uS.o y3 ⟨some (aD y2.heap.size 0),2,[c1,c2]⟩ (aA sZ.2.1 hd3) ⟨by simp,fun i hi=>⟨y2.heap.size,0,rfl,by
      rw[QQ];have hi':i<2:=hi
      match i,hi' with
      | 0,_ => exact hx3.cell 0
      | 1,_ => exact hx3.cell 1⟩⟩ zC
     change Calls Tryz.prog 196 #[.agg #[v0,.slice q.bY q.wh.length q.aI,v2,v3,v4,v5,v6,v7,v8,v9,v10,v11,v12],.slice (some (aD y2.heap.size 0)) 2 2] y3 _ at AZ;have hf2:=HFB.o y2 sZ.2.2.1;obtain⟨a0,a1,a2,a3,a4,a5,a6,a7,a8,a9,iy,iL,a12⟩:=hf2.k13;have RO:=Zh (Pd.o.below hd3);have Lb:=fun x=>Ym.o [c1,c2] x zC
     have oG:Hid (gB ts q [c1]/\gB ts q [c2]):=⟨hk1,hk2⟩
     clear hf2 hd3 hx3 sZ hk1 hk2 zC Ho;generalize bE (fo ts q [c1,c2])=s12 at *;go_wp2_with fail;refine AZ.mono ?_;rintro e y4 ⟨rfl,hb4⟩;have HS4:=Zh (RO.o.below hb4);have Lc:=Lb y4;clear AZ hb4 hy3 Lb a0 a1 a2 a3 a4 a5 a6 a7 a8 a9 iy iL a12;go_wp2_with fail;refine Lc.mono ?_;rintro e yz ⟨rfl,hyz⟩;have ahI:=hyz.symm;subst ahI;clear Lc;generalize aS s s12=CB at *
     cases CB with
     | true =>
      have oz:=hd pq;clear pq;go_wp2;go_roundw
      case rel=>exact⟨k+1,by omega,by go_num,⟨_,_,_,rfl⟩,by show fO _ _ _ _ _; rw[oz.o]; exact HS4.o⟩
      case measure=>simp[intOf]; omega
     | false =>
      have oz:=hd pq;obtain⟨y5,hy5,hd5,hx5⟩:=aU y4 #[.int .i64 c1,.int .i64 c2] 3;have HI5:Hid (fO F w1 (UK k) (.slice pa pm pc) y5/\y5.cell? (aD y4.heap.size 0)=some (.int .i64 c1)/\y5.cell? (aD y4.heap.size 1)=some (.int .i64 c2)/\(Value.slice pa pm pc).ownBlock≠some y4.heap.size):=⟨HS4.o.below hd5,hx5.cell 0,hx5.cell 1,fun e=>by have:=(Ky.o y4 _ _ HS4.o).2.2.2 _ e; omega⟩
      obtain⟨lb,hlb⟩:∃ b,b=y4.heap.size:=⟨_,rfl⟩
      rw[<- hlb]at HI5;obtain⟨UC,hUC⟩:∃ U:Nat->List (List Int),U=fun j=>if j=0 then UK k else if j=1 then bI ts q s (UK k) c1 else bI ts q s (bI ts q s (UK k) c1) c2:=⟨_,rfl⟩
      have HU:Hid (UC 0=UK k/\UC 1=bI ts q s (UC 0) c1/\UC 2=bI ts q s (UC 1) c2/\UC 2=UK (k+1)):=by rw[hUC]; exact⟨rfl,rfl,rfl,oz.o.symm⟩
      have ahK:Hid (∀ j,(UC j).length<=40):=fun j=>by
       have h1:=iU ts q s (UK k) c1;have h2:=iU ts q s (bI ts q s (UK k) c1) c2;rw[hUC]
       show (if j=0 then UK k else if j=1 then bI ts q s (UK k) c1 else bI ts q s (bI ts q s (UK k) c1) c2).length<=40
       split
       ·omega
       ·split <;> omega
      have ar1:=Zh hlb.symm;clear hd5 hx5 pq hUC;go_wp2;rw[<- hlb]at *;clear hy5;go_loopw [5,55] (fun pv xv wx=>∃ j:Nat,j<=2/\xv=.int .i64 (j:Int)/\(∃ a m c,pv=.slice a m c)/\Hid (fO F w1 (UC j) pv wx/\wx.cell? (aD lb 0)=some (.int .i64 c1)/\wx.cell? (aD lb 1)=some (.int .i64 c2)/\pv.ownBlock≠some lb)) (fun _ xv _=>2-(intOf xv).toNat)
      case atStart=>exact⟨0,by omega,rfl,⟨_,_,_,rfl⟩,by show fO _ _ _ _ _/\_; rw[HU.o.1]; exact HI5.o⟩
      case round=>
       obtain⟨j,hj,rfl,⟨qa,qm,qc,rfl⟩,HJ⟩:=hrel;by_cases hj2:j<2
       ·have hcj:∃ ig,wr.cell? (aD lb j)=some (.int .i64 ig)/\gB ts q [ig]/\UC (j+1)=bI ts q s (UC j) ig:=by
         have ahL:j=0∨j=1:=by omega
         rcases ahL with rfl | rfl
         ·exact⟨c1,HJ.o.2.1,oG.o.1,HU.o.2.1⟩
         ·exact⟨c2,HJ.o.2.2.1,oG.o.2,HU.o.2.2.1⟩
        obtain⟨ig,kS,Pe,hnx⟩:=hcj;have La:=HJ.o;have hfz:=Ky.o wr _ _ La.1;have hf:=HFB.o wr hfz.2.2.1;obtain⟨a0,a1,a2,a3,a4,a5,a6,a7,a8,a9,iy,iL,a12⟩:=hf.k13;obtain⟨z1,hz1⟩:∃ x,wr.alloc (.cells #[.int .i64 ig] 3)=x:=⟨_,rfl⟩
        have hd1:Bw wr z1:=by rw[<- hz1]; exact dn _ _
        have hx1:z1.cell? (aD wr.heap.size 0)=some (.int .i64 ig):=by rw[<- hz1]; simp
        have Fw:=uS.o z1 ⟨some (aD wr.heap.size 0),1,[ig]⟩ (aA hfz.2.1 hd1) (yt (F:=fun _=>True) hx1 trivial).at' Pe;change Calls Tryz.prog 196 #[.agg #[v0,.slice q.bY q.wh.length q.aI,v2,v3,v4,v5,v6,v7,v8,v9,v10,v11,v12],.slice (some (aD wr.heap.size 0)) 1 1] z1 _ at Fw;have hCV:=fun x=>Ym.o [ig] x Pe
        have ahM:=Zh hd1;have HJB:Hid (∀ x,Bw wr x->fO F w1 (UC j) (.slice qa qm qc) x/\x.cell? (aD lb 0)=some (.int .i64 c1)/\x.cell? (aD lb 1)=some (.int .i64 c2)/\(Value.slice qa qm qc).ownBlock≠some lb):=fun x hx=>⟨La.1.below hx,cB hx La.2.1,cB hx La.2.2.1,La.2.2.2⟩
        unfold bI at hnx;have Hq:=Zh hnx;clear hf hfz hd1 hx1 Pe hnx La;generalize bE (fo ts q [ig])=sc at *;obtain⟨wq,hwq⟩:∃ x,x=wr:=⟨_,rfl⟩
        subst hwq;go_wp2_with fail;refine Fw.mono ?_;rintro e z2 ⟨rfl,hb2⟩;have Pf:=Zh (aA ahM.o hb2);have aad:=hCV z2;clear Fw hb2 hz1 hCV a0 a1 a2 a3 a4 a5 a6 a7 a8 a9 iy iL a12 kS;go_wp2_with fail;refine aad.mono ?_;rintro e zz ⟨rfl,hzz⟩;have ahO:=hzz.symm;subst ahO;clear aad;generalize aS s sc=CB2 at *
        cases CB2 with
        | false =>
         have HN3:Hid (UC (j+1)=UC j):=Hq.o;have HF:=Zh (HJB.o z2 Pf.o);clear Hq;go_wp2;go_roundw
         case rel=>exact⟨j+1,by omega,by go_num,⟨_,_,_,rfl⟩,by show fO _ _ _ _ _/\_; rw[HN3.o]; exact HF.o⟩
         case measure=>simp[intOf]; omega
        | true =>
         have HN3:Hid (UC (j+1)=iE (UC j) [ig]):=Hq.o;obtain⟨z3,hz3⟩:∃ x,z2.alloc (.cells #[.int .i64 ig] 3)=x:=⟨_,rfl⟩
         have hd3:Bw z2 z3:=by rw[<- hz3]; exact dn _ _
         have hx3:z3.cell? (aD z2.heap.size 0)=some (.int .i64 ig):=by rw[<- hz3]; simp
         have hJ3:=HJB.o z3 (aA Pf.o hd3);have hJ2:=HJB.o z2 Pf.o;have sZ:=Ky.o z2 _ _ hJ2.1;have FH:=ahG hJ3.1 (by have:=ahK.o j; omega) ⟨some (aD z2.heap.size 0),1,[ig]⟩ (yt hx3 (sZ.1.high _ (Qx _))) (by simp);change Calls Tryz.prog 232 #[.slice qa qm qc,.slice (some (aD z2.heap.size 0)) 1 1] z3 _ at FH;have Bd:=Zh hJ3;clear Hq hd3 hx3 hJ3 hJ2 sZ;go_wp2_with fail;refine FH.mono ?_;rintro e z4 ⟨v',rfl,⟨ra,rm,rc,rfl⟩,hst,hk4,CP⟩;have HF:Hid (fO F w1 (UC (j+1)) (.slice ra rm rc) z4/\z4.cell? (aD lb 0)=some (.int .i64 c1)/\z4.cell? (aD lb 1)=some (.int .i64 c2)/\(Value.slice ra rm rc).ownBlock≠some lb):=by
          refine⟨by rw[HN3.o]; exact hst,rf hk4 Bd.o.2.1 Bd.o.2.2.2,rf hk4 Bd.o.2.2.1 Bd.o.2.2.2,fun e=>?_⟩;rcases CP with h | ⟨g,h,hg⟩
          ·exact Bd.o.2.2.2 (h ▸ e)
          ·rw[h]at e;injection e with e;have hlt3:lb<z3.heap.size:=Zv Bd.o.2.1;omega
         clear FH hst hk4 CP hz3;go_wp2;go_roundw
         case rel=>exact⟨j+1,by omega,by go_num,⟨_,_,_,rfl⟩,HF.o⟩
         case measure=>simp[intOf]; omega
       ·have hje:j=2:=by omega
        have HF:Hid (fO F w1 (UK (k+1)) (.slice qa qm qc) wr):=by
         have:=HJ.o.1;rw[hje,HU.o.2.2.2]at this;exact this
        clear hje;go_wp2;go_roundw
        case rel=>exact⟨k+1,by omega,by go_num,⟨_,_,_,rfl⟩,HF.o⟩
        case measure=>simp[intOf]; omega
   ·have tY:q.wh.length=k:=by omega
    have HF:Hid (∃ os,iI 23 F w.heap.size wr (.slice pa pm pc) os/\os.map ah.xs=R/\Bw w wr):=by
     refine afo.o wr _ _ ?_;have:=HSK.o;rw[<- tY,HUE.o]at this;exact this
    clear tY;go_wp2;go_ret;obtain⟨os,h1,h2,h3⟩:=HF.o;exact⟨_,os,rfl,h1,h2,h3⟩
theorem PY(ao:Option Addr)(n cap:Nat)(pick:Int)(w:World)(h0:0<n)(hn:n<4611686018427387904) :
  Ce 166 #[.slice ao n cap,.int .i64 pick] w (.int .i64 (iH n pick)):=by
 have h1:-(n:Int)<pick.tmod n/\pick.tmod n<n:=⟨Int.lt_tmod_of_pos pick (by omega),Int.tmod_lt_of_pos pick (by omega)⟩
 have HR:Hid (iH n pick=(pick.tmod n+n).tmod n):=rfl;generalize iH n pick=R at *;obtain⟨m,hm⟩:=eX (pick.tmod n)
 rw[hm]at h1 HR;have hw:wrap64 (m+n)=m+n:=by unfold wrap64; omega
 obtain⟨m2,hm2⟩:∃ m2,(m+(n:Int)).tmod n=m2:=⟨_,rfl⟩
 rw[hm2]at HR;have h3:-(n:Int)<m2/\m2<n:=by rw[<- hm2]; exact⟨Int.lt_tmod_of_pos _ (by omega),Int.tmod_lt_of_pos _ (by omega)⟩
 have JY:wrap64 m=m:=by unfold wrap64; omega
 clear h1 h3;go_enter Tryz.func166,Tryz.ntmps166;go_wp2;go_ret;exact⟨Qh (by rw[HR.o]),rfl⟩
theorem PZ(x:ah)(k:Nat)(w:World)(hx:x.At w)(hk:k<4611686018427387904) :
  Ce 110 #[x.val,.int .i64 (k:Int)] w (.int .i64 (jL x.xs k)):=by
 obtain⟨ad,cap,xs⟩:=x;have hl:=hx.1;simp only at hl;by_cases h0:xs.length=0
 ·have hR:jL xs k=0:=by unfold jL; rw[Qy h0]
  simp only[hR,ah.val];rw[h0];clear hR hx h0 hl;go_enter Tryz.func110,Tryz.ntmps110;go_wp2;go_ret;exact⟨rfl,rfl⟩
 ·have hR:jL xs k=xs.getD (k % xs.length) 0:=by unfold jL; rw[Qz h0]
  have hlt:k % xs.length<xs.length:=Nat.mod_lt _ (by omega);obtain⟨b,off,e,hc⟩:=Qj hx hlt;have hcc:=hc _ hlt;simp only at e;subst e;simp only[hR,ah.val];generalize xs.getD (k % xs.length) 0=v at *;have hmod:Int.tmod (k:Int) (xs.length:Int)=((k % xs.length:Nat):Int):=by
   rw[Int.tmod_eq_emod_of_nonneg (by omega)];rfl
  have hne:((xs.length:Int)==0)=false:=by rw[Bool.eq_false_iff]; intro h; exact h0 (by have:=eq_of_beq h; omega)
  generalize k % xs.length=m at *;have hm1:(m:Int)<(xs.length:Int):=by omega
  clear hR hc hx;go_enter Tryz.func110,Tryz.ntmps110;go_wp2;go_ret;exact⟨rfl,rfl⟩
