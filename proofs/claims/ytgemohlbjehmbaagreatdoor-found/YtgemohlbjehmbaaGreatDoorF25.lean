import Derived.Test.YtgemohlbjehmbaaGreatDoorF24
set_option linter.all false
set_option maxRecDepth 100000
set_option maxHeartbeats 16000000
namespace Go.Proofs.Zz
open Go.RowKit Go.Shelf
variable {ls:List (List Int)} {ts:List af} {q:ae} {f:aC} {W0 w:World} {F:Nat->Prop} {v:Value}
theorem yM(ls:List (List Int))(l:List Int):(iQ ls l).length<=ls.length+1:=by unfold iQ;split <;> simp
theorem CX{l:List Int}(h:∃ r,ls=[]::r):∃ r,iQ ls l=[]::r:=by
 obtain⟨r,rfl⟩:=h;unfold iQ;split
 ·exact⟨r,rfl⟩
 ·exact⟨r++[l],rfl⟩
theorem jO(ts:List af)(q:ae)(s:Nat)(acc:List (List Int))(c:Int):(bW ts q s acc c).length<=acc.length+1:=by
 unfold bW;split
 ·exact yM _ _
 ·omega
theorem Ah{s:Nat}{acc:List (List Int)}(c:Int)(h:∃ r,acc=[]::r):∃ r,bW ts q s acc c=[]::r:=by
 unfold bW;split
 ·exact CX h
 ·exact h
theorem Jc(ts:List af)(q:ae)(s:Nat):∀ (l:List aL) (acc:List (List Int)),(∃ r,acc=[]::r)->(∃ r,l.foldl (iy ts q s) acc=[]::r)/\(l.foldl (iy ts q s) acc).length<=acc.length+2*l.length
 | [],acc,h => ⟨h,by simp⟩
 | c::l,acc,h => by
  have hs:(∃ r,iy ts q s acc c=[]::r)/\(iy ts q s acc c).length<=acc.length+2:=by
   unfold iy;split
   ·refine⟨Ah _ (Ah _ h),?_⟩;have h1:=jO ts q s acc (bG c.cs).1;have h2:=jO ts q s (bW ts q s acc (bG c.cs).1) (bG c.cs).2.1;omega
   ·exact⟨h,by omega⟩
  have:=Jc ts q s l _ hs.1;grind
theorem Fb(ts:List af)(q:ae)(s:Nat)(h8:q.wh.length<=8):(∃ r,bH ts q s=[]::r)/\(bH ts q s).length<=18:=by
 have a:∃ r,(if aU s (aB (fC ts q (aG q)))=true then iQ [[]] (aG q) else [[]])=[]::r:=by
  split
  ·exact CX ⟨[],rfl⟩
  ·exact⟨[],rfl⟩
 have b:(if aU s (aB (fC ts q (aG q)))=true then iQ [[]] (aG q) else [[]]).length<=2:=by
  split
  ·exact yM _ _
  ·simp
 have:=Jc ts q s q.wh _ a;exact⟨this.1,Q6 this.2 (by omega)⟩
theorem Env.apm(E:Env f ts q W0):iM ts q (aG q):=by
 unfold aG;split
 ·exact E.keys
 ·rename_i hg
  split
  ·exact E.want (by simpa using hg)
  ·intro c a; cases a
theorem jB.fz{Tl:TypeId}{base:Nat}{os:List ai}(h:jB Tl F base w v os)(hz:Fz F W0 w)(hb:W0.heap.size<=base):Fz (Fv F v) W0 w:=hz.own λg e=>⟨Q6 hb (Zj h.own e).1,(Zj h.own e).2⟩
theorem Ai{cb:Nat}{c:Int}(hc:w.cell? (aD cb 0)=some (.int .i64 c))(hF:F cb):IntsIn F w ⟨some (aD cb 0),1,[c]⟩:=
 ⟨⟨by simp,λi b=>⟨cb,0,rfl,by
  grind⟩⟩,λ_ a e=>by cases e; exact hF,(λe=>by cases e),Qn _⟩
theorem tL{w':World}(hk:Kept (λb=>v.ownBlock≠some b) w w'){b o:Nat}{u:Value}(h:w.cell? (aD b o)=some u)(hs:v.ownBlock≠some b):w'.cell? (aD b o)=some u:=by rw[Zc (hk.block b (Za h) hs)];exact h
def iC(F:Nat->Prop)(w1:World)(ls:List (List Int))(v:Value)(w':World):Prop:=∃ os,jB 22 F w1.heap.size w' v os/\os.map ai.xs=ls/\os.length<=100/\Bw w1 w'
theorem akI{w1:World}(h:iC F w1 ls v w)(hl:ls.length<=50)(o:ai)(ho:IntsIn (Fv F v) w o)(hol:o.xs.length<=1000) :
  Calls Tryz.prog 85 #[v,.slice o.ad o.xs.length o.cap] w λe w'=>∃ d,e=.returned d/\(∃ a m c,d = .slice a m c)/\iC F w1 (iQ ls o.xs) d w'/\Kept (λb=>v.ownBlock≠some b) w w'/\(d.ownBlock=v.ownBlock∨∃ g,d.ownBlock=some g/\w.heap.size<=g):=by
 obtain⟨os,k,p,s,f⟩:=h;have j:os.length<=50:=by grind
 refine(Yu k f.size o ho hol (by omega)).mono ?_;rintro e w' ⟨d,i,rfl,l,q,t,n,r⟩;exact⟨d,rfl,Zk l.own,⟨i,l,by rw[q,p],by omega,f.trans (n.below f.size (λb u e=>by have:=(Zj k.own e).1; omega))⟩,n,r⟩
theorem iC.below{F:Nat->Prop}{w1 w w':World}{ls:List (List Int)}{v:Value}(h:iC F w1 ls v w)(hb:Bw w w'):iC F w1 ls v w':=by obtain⟨os,a,b,d,e⟩:=h;exact⟨os,a.below hb,b,d,aF e hb⟩
theorem BM(E:Env f ts q W0)(hz:Fz F W0 w)(s:Nat)(hs:s<18446744073709551616) :
  Calls Tryz.prog 49 #[.agg (f.cells ts q),.int .u64 (s:Int)] w λe w'=>∃ v os,e=.returned v/\jB 22 F w.heap.size w' v os/\os.map ai.xs=bH ts q s/\Bw w w':=by
 obtain⟨v0,v1,v2,v3,v4,v5,v6,v7,v8,v9,aa,ag,ah,bR,di,dJ,dm,dn,dw,dx,dz,-⟩:=Z6 f ts q;subst dJ;have xI:q.cells=#[v0,.slice q.dD q.wh.length q.aS,v2,v3,v4,v5,v6]:=by rw[di,dm,dn,dw,dx,dz]; rfl
 have dC:Hid (∀ (G:Nat->Prop) x,Fz G W0 x->Calls Tryz.prog 82 #[.agg #[v0,.slice q.dD q.wh.length q.aS,v2,v3,v4,v5,v6]] x (EH G x (aG q))):=λG x O=>by rw[<- xI];exact zS E O
 have uj:Hid (∀ (x:World) (iv:ai),Bw w x->iv.At x->iM ts q iv.xs->Cb 84 #[.agg #[v0,.slice q.dD q.wh.length q.aS,v2,v3,v4,v5,v6,v7,v8,v9,aa,ag,ah],.slice iv.ad iv.xs.length iv.cap] x (.int .u64 ((aB (fC ts q iv.xs):Nat):Int))):=λx iv O hi hc=>by rw[<- bR];exact qX f ts q iv.ad iv.cap iv.xs x E.ok ((E.at' hz).below O).aX hi hc
 have aK:Hid (∀ (xs:List Int) (x:World),iM ts q xs->Ce 83 #[.int .u64 (s:Int),.int .u64 ((aB (fC ts q xs):Nat):Int)] x (.bool (aU s (aB (fC ts q xs))))):=λxs x hc=>mQ s _ hs (by have:=Uz E.ok hc xs.length; rwa [QT]at this) x;have bf:Hid (∀ (k:Nat) (x:World),k<q.wh.length->Bw w x->x.cell? ⟨(q.dD.getD (aD 0 0)).block,(q.dD.getD (aD 0 0)).off+k,none⟩=some (.slice (q.wh.getD k lz).ad (q.wh.getD k lz).cs.length (q.wh.getD k lz).cap)/\(∃ b bJ,q.dD=some (aD b bJ))/\Cb 86 #[.agg #[.slice (q.wh.getD k lz).ad (q.wh.getD k lz).cs.length (q.wh.getD k lz).cap]] x (.tuple #[.int .i64 (bG (q.wh.getD k lz).cs).1,.int .i64 (bG (q.wh.getD k lz).cs).2.1,.bool (bG (q.wh.getD k lz).cs).2.2])):=λk x hk O=>by have hq:=((E.at' hz).below O).query.wh;obtain⟨b,bJ,e,hc⟩:=hq.2.1 k hk;refine⟨?_,⟨b,bJ,e⟩,rX _ _ _ x (hq.2.2 k hk) (E.ok.some k hk)⟩;rw[e];exact hc
 have bU:Hid (∀ k,k<q.wh.length->(bG (q.wh.getD k lz).cs).2.2=true->iM ts q [(bG (q.wh.getD k lz).cs).1]/\iM ts q [(bG (q.wh.getD k lz).cs).2.1]):=λk hk h=>I9 E.ok hk h;obtain⟨I0,bg⟩:∃ I,I=(if aU s (aB (fC ts q (aG q)))=true then iQ [[]] (aG q) else [[]]):=⟨_,rfl⟩;have dP:I0.length<=2:=by
  rw[bg];split
  ·exact yM _ _
  ·simp
 obtain⟨p,bq⟩:∃ U:Nat->List (List Int),U=λk=>(q.wh.take k).foldl (iy ts q s) I0:=⟨_,rfl⟩;have bV:Hid (∀ k,k<q.wh.length->p (k+1)=iy ts q s (p k) (q.wh.getD k lz)):=λk hk=>by rw[bq]; exact jM _ I0 q.wh lz hk
 have bX:Hid (∀ k,(p k).length<=2+2*k):=λk=>by
  have key:∀ (l:List aL) (acc:List (List Int)),(l.foldl (iy ts q s) acc).length<=acc.length+2*l.length:=by
   intro l
   induction l with
   | nil => intro acc; simp
   | cons c l ih =>
    intro acc;refine Q6 (ih _) ?_;have:(iy ts q s acc c).length<=acc.length+2:=by
     unfold iy;split
     ·have h1:=jO ts q s acc (bG c.cs).1;have h2:=jO ts q s (bW ts q s acc (bG c.cs).1) (bG c.cs).2.1;omega
     ·omega
    grind
  grind
 have bY:Hid (p 0=I0):=by show _=_; rw[bq]; rfl
 have bZ:Hid (p q.wh.length=bH ts q s):=by show _=_;rw[bq];show (q.wh.take q.wh.length).foldl _ _=_;rw[QT,bg];rfl
 have dQ:=E.eight;have BG:Hid (iM ts q (aG q)/\(aG q).length<=4):=⟨E.apm,E.aci⟩;have cu:=Zh bg;obtain⟨J,dK,aW,bK⟩:=bn w #[v0,.slice q.dD q.wh.length q.aS,v2,v3,v4,v5,v6,v7,v8,v9,aa,ag,ah] 68;obtain⟨w2,dL,z,dA⟩:=bn J #[.slice none 0 0] 22;have cz:Hid (iC F J [[]] (.slice (some (aD J.heap.size 0)) 1 1) w2):=⟨[gQ],⟨⟨rfl,.inr ⟨J.heap.size,1,#[.slice none 0 0],rfl,Qn _,dA,Qn _,by unfold maxLen; omega,rfl,rfl⟩⟩,λo ho=>by rw[Zy]at ho; rw[ho]; exact⟨IntsIn.gQ _ _,QK _⟩⟩,rfl,by simp,z⟩;have MW:Hid (∀ (x:World) (v:Value) (ls:List (List Int)),iC F J ls v x->Fz (Fv F v) W0 x/\Bw w x/\Bw J x/\(∀ g,v.ownBlock=some g->g<x.heap.size)):=λx v ls h=>by obtain⟨os,h1,h2,h3,h4⟩:=h;have cK:=aF aW h4;have:=h1.fz (hz.next cK) (Q6 hz.below.size aW.size);exact⟨this,cK,h4,λg e=>(Zj h1.own e).2⟩
 have Q:Hid (∀ (x:World),Bw J x->GB x w.heap.size 68 #[v0,.slice q.dD q.wh.length q.aS,v2,v3,v4,v5,v6,v7,v8,v9,aa,ag,ah]):=λx O=>bK.keep (Q7 (s:=λb=>b<J.heap.size) O (λ_ h _=>h)) bK.lt;have S:=Q.o w2 z;obtain⟨a0,a1,a2,a3,a4,a5,a6,a7,a8,a9,ji,jE,D⟩:=S.k13;have cO:=dC.o _ w2 (MW.o w2 _ _ cz.o).1;have cZ:Hid (∀ (x:World) (v:Value) (ls:List (List Int)),iC F J ls v x->∃ os,jB 22 F w.heap.size x v os/\os.map ai.xs=ls/\Bw w x):=λx v ls h=>by obtain⟨os,h1,h2,h3,h4⟩:=h;exact⟨os,⟨oL h1.own aW.size,h1.each⟩,h2,aF aW h4⟩
 rw[bR];clear bR xI di dm dn dw dx dz bg bq hz aW bK z dA S E;generalize bH ts q s=R at *;generalize aG q=EO at *;go_enter Tryz.func49,Tryz.ntmps49;go_wp2_with fail;refine cO.mono ?_;rintro e w3 ⟨iv,rfl,vE,bL,dB⟩;obtain⟨ea,ec,ex⟩:=iv;simp only[ai.val]at vE ⊢;subst vE;have bu:=cz.o.below dB;have bz:=MW.o w3 _ _ bu;have df:=Q.o w3 bz.2.2.1;clear a0 a1 a2 a3 a4 a5 a6 a7 a8 a9 ji jE D;obtain⟨a0,a1,a2,a3,a4,a5,a6,a7,a8,a9,ji,jE,D⟩:=df.k13;have DD:=uj.o w3 ⟨ea,ec,ex⟩ bz.2.1 bL.at' BG.o.1;have UD:=hd bu;have dE:=hd bL;have NA:=λx=>aK.o ex x BG.o.1;clear cO bu bz df bL dB dK dL;generalize aB (fC ts q ex)=se at *;obtain⟨el,bM⟩:∃ n,n=ex.length:=⟨_,rfl⟩;have dF:=hd bM;simp only at DD;rw[<- bM]at DD ⊢;clear bM;go_wp2_with fail;refine DD.mono ?_;rintro e w4 ⟨rfl,M⟩;have NB:=NA w4;have L:=Zh (UD.o.below M);have dG:=Zh (dE.o.below M);clear DD M NA;go_wp2_with fail;refine NB.mono ?_;rintro e wz ⟨rfl,dM⟩;have rA:=dM.symm;subst rA;clear NB a0 a1 a2 a3 a4 a5 a6 a7 a8 a9 ji jE D;generalize aU s se=CB0 at *
 cases CB0 with
 | true =>
  have IZ:=akI L.o (by simp) ⟨ea,ec,ex⟩ dG.o (by show ex.length<=1000; have:=BG.o.2; omega);simp only at IZ;rw[<- dF.o]at IZ;go_wp2_with fail;refine IZ.mono ?_;rintro e w5 ⟨v',rfl,⟨ra,rm,rc,rfl⟩,V,-⟩;have UJ:Hid (iC F J (p 0) (.slice ra rm rc) w5):=by show iC _ _ _ _ _; rw[bY.o,cu.o]; exact V
  have aM:=MW.o w5 _ _ UJ.o;have Px:=Q.o w5 aM.2.2.1;clear IZ V;obtain⟨a0,a1,a2,a3,a4,a5,a6,a7,a8,a9,ji,jE,D⟩:=Px.k13;clear Px aM;go_wp2;go_loopw [5,30] (λpv xv wr=>∃ k:Nat,k<=q.wh.length/\xv=.int .i64 (k:Int)/\(∃ a m c,pv=.slice a m c)/\Hid (iC F J (p k) pv wr)) (λ_ xv _=>q.wh.length-(intOf xv).toNat)
  case atStart=>grind
  case round=>
   obtain⟨k,hk,rfl,⟨pa,pm,pc,rfl⟩,aj⟩:=hrel;by_cases P:k<q.wh.length
   ·have u:=MW.o wr _ _ aj.o;obtain⟨A,⟨kb,Ag,SC⟩,aY⟩:=bf.o k wr P u.2.1;have SE:=λx (O:Bw w x)=>(bf.o k x P O).2.2
    have T:=bV.o k P;have KD:=bU.o k P;have dH:=bX.o k;rw[SC]at A ⊢;clear SC;change wr.cell? (aD kb (Ag+k))=some (.slice (q.wh.getD k lz).ad (q.wh.getD k lz).cs.length (q.wh.getD k lz).cap) at A;unfold iy at T;generalize bG (q.wh.getD k lz).cs=EC at *;obtain⟨d,r,c3⟩:=EC;simp only at SE T KD aY;generalize (q.wh.getD k lz).ad=ca at *;generalize (q.wh.getD k lz).cs.length=cl at *;generalize (q.wh.getD k lz).cap=cc at *;obtain⟨y1,ak⟩:∃ x,wr.alloc (.cells #[.slice ca cl cc] 84)=x:=⟨_,rfl⟩;have y:Bw wr y1:=by rw[<- ak]; exact fq _ _
    have b0:y1.cell? (aD wr.heap.size 0)=some (.slice ca cl cc):=by rw[<- ak]; simp
    have aN:=SE y1 (aF u.2.1 y);have rJ:=Zh (aj.o.below y);clear y aY SE u;obtain⟨wl,dN⟩:∃ n,n=q.wh.length:=⟨_,rfl⟩;go_wp2_with fail;refine aN.mono ?_;rintro e y2 ⟨rfl,z⟩;have SG:=Zh (rJ.o.below z);clear aN ak b0 A z
    cases c3 with
    | false =>
     have pQ:=hd T;clear T KD;go_wp2;go_roundw
     case rel=>exact⟨k+1,by omega,by go_num,⟨_,_,_,rfl⟩,by show iC _ _ _ _ _; rw[pQ.o]; exact SG.o⟩
     case measure=>simp[intOf]; omega
    | true =>
     obtain⟨au,av⟩:=KD rfl;have BN:iM ts q [d,r]:=λc hc=>by
      rcases Zq.1 hc with rfl | hc
      ·exact au _ ZJ
      ·exact av c hc
     have vC:=MW.o y2 _ _ SG.o;obtain⟨y3,bN,B,C⟩:=bn y2 #[.int .i64 d,.int .i64 r] 3;have DD:=uj.o y3 ⟨some (aD y2.heap.size 0),2,[d,r]⟩ (aF vC.2.1 B) ⟨by simp,λi hi=>⟨y2.heap.size,0,rfl,by
      rw[QL];have bA:i<2:=hi
      match i,bA with
      | 0,_ => exact C.cell 0
      | 1,_ => exact C.cell 1⟩⟩ BN
     change Calls Tryz.prog 84 #[.agg #[v0,.slice q.dD q.wh.length q.aS,v2,v3,v4,v5,v6,v7,v8,v9,aa,ag,ah],.slice (some (aD y2.heap.size 0)) 2 2] y3 _ at DD;have S:=Q.o y2 vC.2.2.1;obtain⟨a0,a1,a2,a3,a4,a5,a6,a7,a8,a9,ji,jE,D⟩:=S.k13;have UD:=Zh (SG.o.below B);have NA:=λx=>aK.o [d,r] x BN;have uh:Hid (iM ts q [d]/\iM ts q [r]):=⟨au,av⟩;clear S B C vC au av BN KD;generalize aB (fC ts q [d,r])=s12 at *;go_wp2_with fail;refine DD.mono ?_;rintro e y4 ⟨rfl,M⟩;have L:=Zh (UD.o.below M);have NB:=NA y4;clear DD M bN NA a0 a1 a2 a3 a4 a5 a6 a7 a8 a9 ji jE D;go_wp2_with fail;refine NB.mono ?_;rintro e yz ⟨rfl,bO⟩;have bB:=bO.symm;subst bB;clear NB;generalize aU s s12=CB at *
     cases CB with
     | true =>
      have pQ:=hd T;clear T;go_wp2;go_roundw
      case rel=>exact⟨k+1,by omega,by go_num,⟨_,_,_,rfl⟩,by show iC _ _ _ _ _; rw[pQ.o]; exact L.o⟩
      case measure=>simp[intOf]; omega
     | false =>
      have pQ:=hd T;obtain⟨y5,bP,aZ,ax⟩:=bn y4 #[.int .i64 d,.int .i64 r] 3;have aO:Hid (iC F J (p k) (.slice pa pm pc) y5/\y5.cell? (aD y4.heap.size 0)=some (.int .i64 d)/\y5.cell? (aD y4.heap.size 1)=some (.int .i64 r)/\(Value.slice pa pm pc).ownBlock≠some y4.heap.size):=⟨L.o.below aZ,ax.cell 0,ax.cell 1,λe=>by have:=(MW.o y4 _ _ L.o).2.2.2 _ e; omega⟩;obtain⟨K,ay⟩:∃ b,b=y4.heap.size:=⟨_,rfl⟩;rw[<- ay]at aO;obtain⟨t,az⟩:∃ U:Nat->List (List Int),U=λj=>if j=0 then p k else if j=1 then bW ts q s (p k) d else bW ts q s (bW ts q s (p k) d) r:=⟨_,rfl⟩;have HU:Hid (t 0=p k/\t 1=bW ts q s (t 0) d/\t 2=bW ts q s (t 1) r/\t 2=p (k+1)):=by rw[az]; exact⟨rfl,rfl,rfl,pQ.o.symm⟩
      have bC:Hid (∀ j,(t j).length<=40):=λj=>by
       have h1:=jO ts q s (p k) d;have h2:=jO ts q s (bW ts q s (p k) d) r;rw[az];show (if j=0 then p k else if j=1 then bW ts q s (p k) d else bW ts q s (bW ts q s (p k) d) r).length<=40;split
       ·omega
       ·split <;> omega
      have dI:=Zh ay.symm;clear aZ ax T az;go_wp2;rw[<- ay]at *;clear bP;go_loopw [5,55] (λpv xv wx=>∃ j:Nat,j<=2/\xv=.int .i64 (j:Int)/\(∃ a m c,pv=.slice a m c)/\Hid (iC F J (t j) pv wx/\wx.cell? (aD K 0)=some (.int .i64 d)/\wx.cell? (aD K 1)=some (.int .i64 r)/\pv.ownBlock≠some K)) (λ_ xv _=>2-(intOf xv).toNat)
      case atStart=>exact⟨0,by omega,rfl,⟨_,_,_,rfl⟩,by show iC _ _ _ _ _/\_; rw[HU.o.1]; exact aO.o⟩
      case round=>
       obtain⟨j,hj,rfl,⟨qa,qm,qc,rfl⟩,HJ⟩:=hrel;by_cases dO:j<2
       ·have bD:∃ H,wr.cell? (aD K j)=some (.int .i64 H)/\iM ts q [H]/\t (j+1)=bW ts q s (t j) H:=by
         have bE:j=0∨j=1:=by omega
         rcases bE with rfl | rfl
         ·exact⟨d,HJ.o.2.1,uh.o.1,HU.o.2.1⟩
         ·exact⟨r,HJ.o.2.2.1,uh.o.2,HU.o.2.2.1⟩
        obtain⟨H,mF,SH,aA⟩:=bD;have Nz:=HJ.o;have u:=MW.o wr _ _ Nz.1;have hf:=Q.o wr u.2.2.1;obtain⟨a0,a1,a2,a3,a4,a5,a6,a7,a8,a9,ji,jE,D⟩:=hf.k13;obtain⟨z1,aH⟩:∃ x,wr.alloc (.cells #[.int .i64 H] 3)=x:=⟨_,rfl⟩;have y:Bw wr z1:=by rw[<- aH]; exact fq _ _
        have aP:z1.cell? (aD wr.heap.size 0)=some (.int .i64 H):=by rw[<- aH]; simp
        have IJ:=uj.o z1 ⟨some (aD wr.heap.size 0),1,[H]⟩ (aF u.2.1 y) (Ai (F:=λ_=>True) aP trivial).at' SH;change Calls Tryz.prog 84 #[.agg #[v0,.slice q.dD q.wh.length q.aS,v2,v3,v4,v5,v6,v7,v8,v9,aa,ag,ah],.slice (some (aD wr.heap.size 0)) 1 1] z1 _ at IJ;have aQ:=λx=>aK.o [H] x SH;have bF:=Zh y;have W:Hid (∀ x,Bw wr x->iC F J (t j) (.slice qa qm qc) x/\x.cell? (aD K 0)=some (.int .i64 d)/\x.cell? (aD K 1)=some (.int .i64 r)/\(Value.slice qa qm qc).ownBlock≠some K):=λx O=>⟨Nz.1.below O,cB O Nz.2.1,cB O Nz.2.2.1,Nz.2.2.2⟩;unfold bW at aA;have BO:=Zh aA;clear hf u y aP SH aA Nz;generalize aB (fC ts q [H])=sc at *;obtain⟨wq,bQ⟩:∃ x,x=wr:=⟨_,rfl⟩;subst bQ;go_wp2_with fail;refine IJ.mono ?_;rintro e N ⟨rfl,z⟩;have SI:=Zh (aF bF.o z);have aR:=aQ N;clear IJ z aH aQ a0 a1 a2 a3 a4 a5 a6 a7 a8 a9 ji jE D mF;go_wp2_with fail;refine aR.mono ?_;rintro e zz ⟨rfl,bT⟩;have bI:=bT.symm;subst bI;clear aR;generalize aU s sc=CB2 at *
        cases CB2 with
        | false =>
         have X:Hid (t (j+1)=t j):=BO.o;have Y:=Zh (W.o N SI.o);clear BO;go_wp2;go_roundw
         case rel=>exact⟨j+1,by omega,by go_num,⟨_,_,_,rfl⟩,by show iC _ _ _ _ _/\_; rw[X.o]; exact Y.o⟩
         case measure=>simp[intOf]; omega
        | true =>
         have X:Hid (t (j+1)=iQ (t j) [H]):=BO.o;obtain⟨z3,aI⟩:∃ x,N.alloc (.cells #[.int .i64 H] 3)=x:=⟨_,rfl⟩;have B:Bw N z3:=by rw[<- aI]; exact fq _ _
         have C:z3.cell? (aD N.heap.size 0)=some (.int .i64 H):=by rw[<- aI]; simp
         have Z:=W.o z3 (aF SI.o B);have aT:=W.o N SI.o;have vC:=MW.o N _ _ aT.1;have IZ:=akI Z.1 (by have:=bC.o j; omega) ⟨some (aD N.heap.size 0),1,[H]⟩ (Ai C (vC.1.high _ (Qn _))) (by simp);change Calls Tryz.prog 85 #[.slice qa qm qc,.slice (some (aD N.heap.size 0)) 1 1] z3 _ at IZ;have DU:=Zh Z;clear BO B C Z aT vC;go_wp2_with fail;refine IZ.mono ?_;rintro e z4 ⟨v',rfl,⟨ra,rm,rc,rfl⟩,V,aJ,yL⟩;have Y:Hid (iC F J (t (j+1)) (.slice ra rm rc) z4/\z4.cell? (aD K 0)=some (.int .i64 d)/\z4.cell? (aD K 1)=some (.int .i64 r)/\(Value.slice ra rm rc).ownBlock≠some K):=by
          refine⟨by rw[X.o]; exact V,tL aJ DU.o.2.1 DU.o.2.2.2,tL aJ DU.o.2.2.1 DU.o.2.2.2,λe=>?_⟩;rcases yL with h | ⟨g,h,hg⟩
          ·exact DU.o.2.2.2 (h ▸ e)
          ·rw[h]at e;injection e with e;have dh:K<z3.heap.size:=Za DU.o.2.1;omega
         clear IZ V aJ yL aI;go_wp2;go_roundw
         case rel=>exact⟨j+1,by omega,by go_num,⟨_,_,_,rfl⟩,Y.o⟩
         case measure=>simp[intOf]; omega
       ·have aV:j=2:=by omega
        have Y:Hid (iC F J (p (k+1)) (.slice qa qm qc) wr):=by have:=HJ.o.1;rw[aV,HU.o.2.2.2]at this;exact this
        clear aV;go_wp2;go_roundw
        case rel=>exact⟨k+1,by omega,by go_num,⟨_,_,_,rfl⟩,Y.o⟩
        case measure=>simp[intOf]; omega
   ·have GG:q.wh.length=k:=by omega
    have Y:Hid (∃ os,jB 22 F w.heap.size wr (.slice pa pm pc) os/\os.map ai.xs=R/\Bw w wr):=by refine cZ.o wr _ _ ?_;have:=aj.o;rw[<- GG,bZ.o]at this;exact this
    clear GG;go_wp2;go_ret;obtain⟨os,h1,h2,h3⟩:=Y.o;exact⟨_,os,rfl,h1,h2,h3⟩
 | false =>
  have UJ:Hid (iC F J (p 0) (.slice (some (aD J.heap.size 0)) 1 1) w4):=by show iC _ _ _ _ _; rw[bY.o,cu.o]; exact L.o
  have aM:=MW.o w4 _ _ UJ.o;have Px:=Q.o w4 aM.2.2.1;obtain⟨a0,a1,a2,a3,a4,a5,a6,a7,a8,a9,ji,jE,D⟩:=Px.k13;clear Px aM;go_wp2;go_loopw [5,30] (λpv xv wr=>∃ k:Nat,k<=q.wh.length/\xv=.int .i64 (k:Int)/\(∃ a m c,pv=.slice a m c)/\Hid (iC F J (p k) pv wr)) (λ_ xv _=>q.wh.length-(intOf xv).toNat)
  case atStart=>grind
  case round=>
   obtain⟨k,hk,rfl,⟨pa,pm,pc,rfl⟩,aj⟩:=hrel;by_cases P:k<q.wh.length
   ·have u:=MW.o wr _ _ aj.o;obtain⟨A,⟨kb,Ag,SC⟩,aY⟩:=bf.o k wr P u.2.1;have SE:=λx (O:Bw w x)=>(bf.o k x P O).2.2
    have T:=bV.o k P;have KD:=bU.o k P;have dH:=bX.o k;rw[SC]at A ⊢;clear SC;change wr.cell? (aD kb (Ag+k))=some (.slice (q.wh.getD k lz).ad (q.wh.getD k lz).cs.length (q.wh.getD k lz).cap) at A;unfold iy at T;generalize bG (q.wh.getD k lz).cs=EC at *;obtain⟨d,r,c3⟩:=EC;simp only at SE T KD aY;generalize (q.wh.getD k lz).ad=ca at *;generalize (q.wh.getD k lz).cs.length=cl at *;generalize (q.wh.getD k lz).cap=cc at *;obtain⟨y1,ak⟩:∃ x,wr.alloc (.cells #[.slice ca cl cc] 84)=x:=⟨_,rfl⟩;have y:Bw wr y1:=by rw[<- ak]; exact fq _ _
    have b0:y1.cell? (aD wr.heap.size 0)=some (.slice ca cl cc):=by rw[<- ak]; simp
    have aN:=SE y1 (aF u.2.1 y);have rJ:=Zh (aj.o.below y);clear y aY SE u;obtain⟨wl,dN⟩:∃ n,n=q.wh.length:=⟨_,rfl⟩;go_wp2_with fail;refine aN.mono ?_;rintro e y2 ⟨rfl,z⟩;have SG:=Zh (rJ.o.below z);clear aN ak b0 A z
    cases c3 with
    | false =>
     have pQ:=hd T;clear T KD;go_wp2;go_roundw
     case rel=>exact⟨k+1,by omega,by go_num,⟨_,_,_,rfl⟩,by show iC _ _ _ _ _; rw[pQ.o]; exact SG.o⟩
     case measure=>simp[intOf]; omega
    | true =>
     obtain⟨au,av⟩:=KD rfl;have BN:iM ts q [d,r]:=λc hc=>by
      rcases Zq.1 hc with rfl | hc
      ·exact au _ ZJ
      ·exact av c hc
     have vC:=MW.o y2 _ _ SG.o;obtain⟨y3,bN,B,C⟩:=bn y2 #[.int .i64 d,.int .i64 r] 3;have DD:=uj.o y3 ⟨some (aD y2.heap.size 0),2,[d,r]⟩ (aF vC.2.1 B) ⟨by simp,λi hi=>⟨y2.heap.size,0,rfl,by
      rw[QL];have bA:i<2:=hi
      match i,bA with
      | 0,_ => exact C.cell 0
      | 1,_ => exact C.cell 1⟩⟩ BN
     change Calls Tryz.prog 84 #[.agg #[v0,.slice q.dD q.wh.length q.aS,v2,v3,v4,v5,v6,v7,v8,v9,aa,ag,ah],.slice (some (aD y2.heap.size 0)) 2 2] y3 _ at DD;have S:=Q.o y2 vC.2.2.1;obtain⟨a0,a1,a2,a3,a4,a5,a6,a7,a8,a9,ji,jE,D⟩:=S.k13;have UD:=Zh (SG.o.below B);have NA:=λx=>aK.o [d,r] x BN;have uh:Hid (iM ts q [d]/\iM ts q [r]):=⟨au,av⟩;clear S B C vC au av BN KD;generalize aB (fC ts q [d,r])=s12 at *;go_wp2_with fail;refine DD.mono ?_;rintro e y4 ⟨rfl,M⟩;have L:=Zh (UD.o.below M);have NB:=NA y4;clear DD M bN NA a0 a1 a2 a3 a4 a5 a6 a7 a8 a9 ji jE D;go_wp2_with fail;refine NB.mono ?_;rintro e yz ⟨rfl,bO⟩;have bB:=bO.symm;subst bB;clear NB;generalize aU s s12=CB at *
     cases CB with
     | true =>
      have pQ:=hd T;clear T;go_wp2;go_roundw
      case rel=>exact⟨k+1,by omega,by go_num,⟨_,_,_,rfl⟩,by show iC _ _ _ _ _; rw[pQ.o]; exact L.o⟩
      case measure=>simp[intOf]; omega
     | false =>
      have pQ:=hd T;obtain⟨y5,bP,aZ,ax⟩:=bn y4 #[.int .i64 d,.int .i64 r] 3;have aO:Hid (iC F J (p k) (.slice pa pm pc) y5/\y5.cell? (aD y4.heap.size 0)=some (.int .i64 d)/\y5.cell? (aD y4.heap.size 1)=some (.int .i64 r)/\(Value.slice pa pm pc).ownBlock≠some y4.heap.size):=⟨L.o.below aZ,ax.cell 0,ax.cell 1,λe=>by have:=(MW.o y4 _ _ L.o).2.2.2 _ e; omega⟩;obtain⟨K,ay⟩:∃ b,b=y4.heap.size:=⟨_,rfl⟩;rw[<- ay]at aO;obtain⟨t,az⟩:∃ U:Nat->List (List Int),U=λj=>if j=0 then p k else if j=1 then bW ts q s (p k) d else bW ts q s (bW ts q s (p k) d) r:=⟨_,rfl⟩;have HU:Hid (t 0=p k/\t 1=bW ts q s (t 0) d/\t 2=bW ts q s (t 1) r/\t 2=p (k+1)):=by rw[az]; exact⟨rfl,rfl,rfl,pQ.o.symm⟩
      have bC:Hid (∀ j,(t j).length<=40):=λj=>by
       have h1:=jO ts q s (p k) d;have h2:=jO ts q s (bW ts q s (p k) d) r;rw[az];show (if j=0 then p k else if j=1 then bW ts q s (p k) d else bW ts q s (bW ts q s (p k) d) r).length<=40;split
       ·omega
       ·split <;> omega
      have dI:=Zh ay.symm;clear aZ ax T az;go_wp2;rw[<- ay]at *;clear bP;go_loopw [5,55] (λpv xv wx=>∃ j:Nat,j<=2/\xv=.int .i64 (j:Int)/\(∃ a m c,pv=.slice a m c)/\Hid (iC F J (t j) pv wx/\wx.cell? (aD K 0)=some (.int .i64 d)/\wx.cell? (aD K 1)=some (.int .i64 r)/\pv.ownBlock≠some K)) (λ_ xv _=>2-(intOf xv).toNat)
      case atStart=>exact⟨0,by omega,rfl,⟨_,_,_,rfl⟩,by show iC _ _ _ _ _/\_; rw[HU.o.1]; exact aO.o⟩
      case round=>
       obtain⟨j,hj,rfl,⟨qa,qm,qc,rfl⟩,HJ⟩:=hrel;by_cases dO:j<2
       ·have bD:∃ H,wr.cell? (aD K j)=some (.int .i64 H)/\iM ts q [H]/\t (j+1)=bW ts q s (t j) H:=by
         have bE:j=0∨j=1:=by omega
         rcases bE with rfl | rfl
         ·exact⟨d,HJ.o.2.1,uh.o.1,HU.o.2.1⟩
         ·exact⟨r,HJ.o.2.2.1,uh.o.2,HU.o.2.2.1⟩
        obtain⟨H,mF,SH,aA⟩:=bD;have Nz:=HJ.o;have u:=MW.o wr _ _ Nz.1;have hf:=Q.o wr u.2.2.1;obtain⟨a0,a1,a2,a3,a4,a5,a6,a7,a8,a9,ji,jE,D⟩:=hf.k13;obtain⟨z1,aH⟩:∃ x,wr.alloc (.cells #[.int .i64 H] 3)=x:=⟨_,rfl⟩;have y:Bw wr z1:=by rw[<- aH]; exact fq _ _
        have aP:z1.cell? (aD wr.heap.size 0)=some (.int .i64 H):=by rw[<- aH]; simp
        have IJ:=uj.o z1 ⟨some (aD wr.heap.size 0),1,[H]⟩ (aF u.2.1 y) (Ai (F:=λ_=>True) aP trivial).at' SH;change Calls Tryz.prog 84 #[.agg #[v0,.slice q.dD q.wh.length q.aS,v2,v3,v4,v5,v6,v7,v8,v9,aa,ag,ah],.slice (some (aD wr.heap.size 0)) 1 1] z1 _ at IJ;have aQ:=λx=>aK.o [H] x SH;have bF:=Zh y;have W:Hid (∀ x,Bw wr x->iC F J (t j) (.slice qa qm qc) x/\x.cell? (aD K 0)=some (.int .i64 d)/\x.cell? (aD K 1)=some (.int .i64 r)/\(Value.slice qa qm qc).ownBlock≠some K):=λx O=>⟨Nz.1.below O,cB O Nz.2.1,cB O Nz.2.2.1,Nz.2.2.2⟩;unfold bW at aA;have BO:=Zh aA;clear hf u y aP SH aA Nz;generalize aB (fC ts q [H])=sc at *;obtain⟨wq,bQ⟩:∃ x,x=wr:=⟨_,rfl⟩;subst bQ;go_wp2_with fail;refine IJ.mono ?_;rintro e N ⟨rfl,z⟩;have SI:=Zh (aF bF.o z);have aR:=aQ N;clear IJ z aH aQ a0 a1 a2 a3 a4 a5 a6 a7 a8 a9 ji jE D mF;go_wp2_with fail;refine aR.mono ?_;rintro e zz ⟨rfl,bT⟩;have bI:=bT.symm;subst bI;clear aR;generalize aU s sc=CB2 at *
        cases CB2 with
        | false =>
         have X:Hid (t (j+1)=t j):=BO.o;have Y:=Zh (W.o N SI.o);clear BO;go_wp2;go_roundw
         case rel=>exact⟨j+1,by omega,by go_num,⟨_,_,_,rfl⟩,by show iC _ _ _ _ _/\_; rw[X.o]; exact Y.o⟩
         case measure=>simp[intOf]; omega
        | true =>
         have X:Hid (t (j+1)=iQ (t j) [H]):=BO.o;obtain⟨z3,aI⟩:∃ x,N.alloc (.cells #[.int .i64 H] 3)=x:=⟨_,rfl⟩;have B:Bw N z3:=by rw[<- aI]; exact fq _ _
         have C:z3.cell? (aD N.heap.size 0)=some (.int .i64 H):=by rw[<- aI]; simp
         have Z:=W.o z3 (aF SI.o B);have aT:=W.o N SI.o;have vC:=MW.o N _ _ aT.1;have IZ:=akI Z.1 (by have:=bC.o j; omega) ⟨some (aD N.heap.size 0),1,[H]⟩ (Ai C (vC.1.high _ (Qn _))) (by simp);change Calls Tryz.prog 85 #[.slice qa qm qc,.slice (some (aD N.heap.size 0)) 1 1] z3 _ at IZ;have DU:=Zh Z;clear BO B C Z aT vC;go_wp2_with fail;refine IZ.mono ?_;rintro e z4 ⟨v',rfl,⟨ra,rm,rc,rfl⟩,V,aJ,yL⟩;have Y:Hid (iC F J (t (j+1)) (.slice ra rm rc) z4/\z4.cell? (aD K 0)=some (.int .i64 d)/\z4.cell? (aD K 1)=some (.int .i64 r)/\(Value.slice ra rm rc).ownBlock≠some K):=by
          refine⟨by rw[X.o]; exact V,tL aJ DU.o.2.1 DU.o.2.2.2,tL aJ DU.o.2.2.1 DU.o.2.2.2,λe=>?_⟩;rcases yL with h | ⟨g,h,hg⟩
          ·exact DU.o.2.2.2 (h ▸ e)
          ·rw[h]at e;injection e with e;have dh:K<z3.heap.size:=Za DU.o.2.1;omega
         clear IZ V aJ yL aI;go_wp2;go_roundw
         case rel=>exact⟨j+1,by omega,by go_num,⟨_,_,_,rfl⟩,Y.o⟩
         case measure=>simp[intOf]; omega
       ·have aV:j=2:=by omega
        have Y:Hid (iC F J (p (k+1)) (.slice qa qm qc) wr):=by have:=HJ.o.1;rw[aV,HU.o.2.2.2]at this;exact this
        clear aV;go_wp2;go_roundw
        case rel=>exact⟨k+1,by omega,by go_num,⟨_,_,_,rfl⟩,Y.o⟩
        case measure=>simp[intOf]; omega
   ·have GG:q.wh.length=k:=by omega
    have Y:Hid (∃ os,jB 22 F w.heap.size wr (.slice pa pm pc) os/\os.map ai.xs=R/\Bw w wr):=by refine cZ.o wr _ _ ?_;have:=aj.o;rw[<- GG,bZ.o]at this;exact this
    clear GG;go_wp2;go_ret;obtain⟨os,h1,h2,h3⟩:=Y.o;exact⟨_,os,rfl,h1,h2,h3⟩
theorem TI(ao:Option Addr)(n cap:Nat)(pick:Int)(w:World)(h0:0<n)(hn:n<4611686018427387904) :
  Ce 57 #[.slice ao n cap,.int .i64 pick] w (.int .i64 (dP n pick)):=by
 have e:-(n:Int)<pick.tmod n/\pick.tmod n<n:=⟨Int.lt_tmod_of_pos pick (by omega),Int.tmod_lt_of_pos pick (by omega)⟩;have d:Hid (dP n pick=(pick.tmod n+n).tmod n):=rfl;generalize dP n pick=R at *;obtain⟨m,g⟩:=eX (pick.tmod n);rw[g]at e d;have i:wrap64 (m+n)=m+n:=by unfold wrap64; omega
 obtain⟨b,a⟩:∃ b,(m+(n:Int)).tmod n=b:=⟨_,rfl⟩;rw[a]at d;have f:-(n:Int)<b/\b<n:=by rw[<- a]; exact⟨Int.lt_tmod_of_pos _ (by omega),Int.tmod_lt_of_pos _ (by omega)⟩
 have j:wrap64 m=m:=by unfold wrap64; omega
 clear e f;go_enter Tryz.func57,Tryz.ntmps57;go_wp2;go_ret;exact⟨Qe (by rw[d.o]),rfl⟩
theorem TJ(x:ai)(k:Nat)(w:World)(hx:x.At w)(hk:k<4611686018427387904) :
  Ce 34 #[x.val,.int .i64 (k:Int)] w (.int .i64 (jU x.xs k)):=by
 obtain⟨q,cap,xs⟩:=x;have g:=hx.1;simp only at g;by_cases f:xs.length=0
 ·have a:jU xs k=0:=by unfold jU; rw[Qo f]
  simp only[a,ai.val];rw[f];clear a hx f g;go_enter Tryz.func34,Tryz.ntmps34;go_wp2;go_ret;exact⟨rfl,rfl⟩
 ·have a:jU xs k=xs.getD (k % xs.length) 0:=by unfold jU; rw[Qu f]
  have d:k % xs.length<xs.length:=Nat.mod_lt _ (by omega);obtain⟨b,p,e,j⟩:=Qg hx d;have l:=j _ d;simp only at e;subst e;simp only[a,ai.val];generalize xs.getD (k % xs.length) 0=v at *;have i:Int.tmod (k:Int) (xs.length:Int)=((k % xs.length:Nat):Int):=by grind
  have n:((xs.length:Int)==0)=false:=by grind
  generalize k % xs.length=m at *;have o:(m:Int)<(xs.length:Int):=by omega
  clear a j hx;go_enter Tryz.func34,Tryz.ntmps34;go_wp2;go_ret;exact⟨rfl,rfl⟩
