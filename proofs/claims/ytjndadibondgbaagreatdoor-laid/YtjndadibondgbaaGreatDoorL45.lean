import Derived.Test.YtjndadibondgbaaGreatDoorL09
import Derived.Test.YtjndadibondgbaaGreatDoorL44
set_option linter.all false
set_option maxRecDepth 100000
set_option maxHeartbeats 16000000
namespace Go.Proofs.Zz
open Go.RowKit Go.Shelf
theorem aed(lo:Option Addr)(lc:Nat)(l:List Int)(po:Option Addr)(pc:Nat)(ps:List Int)(n1:Int)(W:World)(hI:aI W lo l)(hR:∀ x∈l,-9223372036854775808<=x/\x<=9223372036854775807)(hB:∀ a,lo=some a->a.block<W.heap.size)(hP:aI W po ps)(hPR:∀ x∈ps,-9223372036854775808<=x/\x<=9223372036854775807)(hPB:∀ a,po=some a->a.block<W.heap.size)(hS:eG W 0)(h1:-9223372036854775808<=n1/\n1<=9223372036854775807) :
  Calls Tryz.prog 3 #[.slice lo l.length lc,.slice po ps.length pc,.int .i64 n1] W fun e W'=>e=.returned (.bool true)/\Bw W W':=by
 have hm:=aea lo lc l W hI hR hB;have HP:=Zh (XX hP (XX hPR hPB));have HS:=Zh hS;have aU:=Zh h1;clear hI hR hB hP hPR hPB hS h1;go_enter Tryz.func3,Tryz.ntmps3;go_wp2_with fail;refine hm.mono ?_;rintro e w1 ⟨ts,q,db,L,d,Q,dc,rfl,D,bG,dm,dn,t,lF,bH⟩;obtain⟨x0,y0,z0,x1,y1,z1,g0,x3,y3,z3,x4,y4,z4,x5,y5,z5,x6,y6,z6,aK⟩:∃ x0 y0 z0 x1 y1 z1 g0 x3 y3 z3 x4 y4 z4 x5 y5 z5 x6 y6 z6,q.cells=#[(.slice x0 y0 z0),(.slice x1 y1 z1),(.bool g0),(.slice x3 y3 z3),(.slice x4 y4 z4),(.slice x5 y5 z5),(.slice x6 y6 z6)]:=⟨_,_,_,_,_,_,_,_,_,_,_,_,_,_,_,_,_,_,_,rfl⟩
 have aV:caseA (.slice L ts.length Q) q (.slice d db.length dc)=#[.slice L ts.length Q,(.slice x0 y0 z0),(.slice x1 y1 z1),(.bool g0),(.slice x3 y3 z3),(.slice x4 y4 z4),(.slice x5 y5 z5),(.slice x6 y6 z6),.slice d db.length dc]:=by
  have:caseA (.slice L ts.length Q) q (.slice d db.length dc)=#[.slice L ts.length Q]++q.cells ++ #[.slice d db.length dc]:=rfl;rw[this,aK];rfl
 obtain⟨W2,bI,M,aL⟩:=aR w1 #[.slice L ts.length Q,(.slice x0 y0 z0),(.slice x1 y1 z1),(.bool g0),(.slice x3 y3 z3),(.slice x4 y4 z4),(.slice x5 y5 z5),(.slice x6 y6 z6),.slice d db.length dc] 29;have z:=aC bH M;have lC:=UN D;have az:=D.data (src:=q.src.xs) D.Iu.src.2.2;have A:=(Fg lC).1;have h4:=D.Iu.src;have y:zg L ts q W2:=⟨bG.below M,t.at'.below M,A.ok.cat,by omega,A.ok.src,A.ok.cols⟩
 have aW:=Zh fun (x:World) (j:Bw W2 x)=>Yg L Q ts (.slice d db.length dc) q po pc ps x ⟨_,_,_,rfl⟩ (y.below j) A.ok (by have:=D.Iu.wh.1; omega) (by omega) (Qt (aC z j) HP.o.1) HP.o.2.1 (fun a ha=>QT (HP.o.2.2 a ha) (aC z j).size)
 have S:=Zh fun (x:World) (j:Bw W2 x) (qo:Option Addr) (qc:Nat) (pl:List ah) (hn:fq x qo pl) (m:∀ i,i<pl.length->(pl.getD i nz).co.xs.length<=(pl.getD i nz).co.cap) (F:List bZ) (p:fV ts q pl=some F) (h8:∀ i,i<pl.length->(pl.getD i nz).kind≠8) (ho:q.ord.xs=[]∨(pl.getD (pl.length-1) nz).kind=10)=>Mf L d qo Q dc qc ts q db pl x (y.below j).tabs (y.below j).Iu t.keys.2.2 t.ord.2.2 t.src.2.2 ((lF.below M).below j) hn (Jv (aC z j) HS.o) m lC az F p h8 ho
 have l9:=Zh fun (x:World) (j:Bw W2 x) (qo:Option Addr) (qc:Nat) (pl:List ah) (hn:fq x qo pl) (m:∀ i,i<pl.length->(pl.getD i nz).co.xs.length<=(pl.getD i nz).co.cap) (F:List bZ) (p:fV ts q pl=some F)=>show Calls Tryz.prog 10 #[.slice L ts.length Q,.agg q.cells,.slice qo pl.length qc] x fun e w'=>e=.returned (.tuple #[.int .u64 (((F.getD (F.length-1) pz).cost:Nat):Int),.int .i64 0])/\Bw x w' from by
  have h:=GY L Q ts q qo qc pl x (y.below j).tabs (y.below j).Iu t.keys.2.2 t.ord.2.2 hn (Jv (aC z j) HS.o) m;have e1:BN ts q pl=0:=by unfold BN; rw[lC,p]; rfl
  have e2:CW ts q pl=(F.getD (F.length-1) pz).cost:=by unfold CW; rw[lC,p]; rfl
  rw[e1,e2]at h;exact h
 have uz:=Zh fun (x:World) (j:Bw W2 x)=>yN L Q ts q (.slice d db.length dc) ⟨_,_,_,rfl⟩ x (y.below j).tabs y.cat (y.below j).Iu.src y.five y.src
 obtain⟨bJ,aM⟩:∃ n:Int,n=ai ts q.src.xs:=⟨_,rfl⟩
 have aX:=(Fs y.cat y.src h4.2.1 y.five).1;rw[<- aM]at uz aX;have aY:=Zh fun (x:World)=>Hd n1 bJ x (by omega) aU.o
 obtain⟨c,hc⟩:∃ c:Int,c=yJ n1 bJ:=⟨_,rfl⟩
 rw[<- hc]at aY;have HC:Hid (0<=c/\c<ai ts q.src.xs):=by show _/\_; rw[hc,<- aM]; exact Be (by omega)
 have HG:=Zh fun (x:World) (j:Bw W2 x)=>aL.of (j.block _ aL.lt)
 have Ck:=Zh A.ok;have T:=Zh h4;have bY:=Zh z;rw[aV]at aW S uz ⊢;rw[aK]at l9;clear hm D bG dm dn t lF bH M aL z aK lC aV az A h4 y aM hc aX HP HS aU;go_upto_region 2 with fail
 try rw[bI]
 clear bI;go_wp2_with fail;refine(UJ W2).mono ?_;rintro e w3 ⟨rfl,Y⟩;have cu:=Zh Y;have aZ:=aW.o w3 Y;obtain⟨Z,d1,d2,d3,d4,d5,d6,d7,d8⟩:=(HG.o w3 Y).k9;clear Y;go_wp2_with fail;refine aZ.mono ?_;rintro e w4 ⟨v,rfl,⟨ns,f,hv,us,ae,E,af,aN⟩,bK⟩;clear aZ Z d1 d2 d3 d4 d5 d6 d7 d8;obtain⟨tl,tu,t8,tq,tk,te⟩:=Em E.knd ae;have cz:=E.few;have bf:hv≠[]:=fun e=>by have:=T.o; rw[e]at af; simp at af; omega
 have dG:0<f.length:=Nat.pos_of_ne_zero fun e=>bf (E.zero.1 e)
 have Kc:f.length<=20:=by have:=T.o; omega
 obtain⟨g,gc,rfl,dJ,dw,aO,m,aj⟩:=aN.nodes (by omega) (by omega);obtain⟨F,O,p,C,bL⟩:=E.look Ck.o (by have:=T.o; omega) (by have:=T.o; omega) af HC.o;rw[<- ae,IX]at p;have zo:=aC cu.o bK;have TK:=S.o w4 zo (some (aD g 0)) gc ns aO m F p t8 tq;obtain⟨Z,d1,d2,d3,d4,d5,d6,d7,d8⟩:=(HG.o w4 zo).k9;have aB:=Zh aN;have U:=Zh aO;have yF:=Zh (XX ae (XX E.knd (XX C (XX p bL))));have aF:=Zh (XX tk te);have bg:=Zh m;have cK:=Zh zo;clear ae E af aN bK cz bf aO m aj p C bL zo t8 tq tk te dw;go_wp2_with fail;refine TK.mono ?_;rintro e w5 ⟨rfl,aP⟩;clear TK Z d1 d2 d3 d4 d5 d6 d7 d8;have lD:=Zh aP;have Ch:=Zh (aC cK.o aP);clear aP;go_wp2;go_loopw [11] (fun kv wr=>∃ k:Nat,k<=f.length/\kv=.int .i64 k/\Hid (Bw w5 wr)) (fun kv _=>f.length-(intOf kv).toNat)
 case atStart=>exact⟨0,Zf _,rfl,Qr _ _⟩
 case round=>
  obtain⟨k,hk,rfl,HW⟩:=hrel;obtain⟨_,_,e,c0,-⟩:=(U.o.below (aC lD.o HW.o)).2 k (by omega)
  cases e
  simp only[QJ]at c0;by_cases w:k<f.length
  ·obtain⟨h9,h7⟩:=aF.o.1 k w;generalize (ns.getD k nz).kind=kd at *;have b9:(kd != 9)=true:=by simp[h9]
   have b7:(kd != 7)=true:=by simp[h7]
   clear h9 h7;go_wp2;go_roundw
   case rel=>exact⟨k+1,by omega,by go_num,HW.o⟩
   case measure=>simp[intOf]; omega
  ·obtain rfl:k=f.length:=by omega
   have cO:=aF.o.2;generalize (ns.getD f.length nz).kind=kd at *;rcases cO with rfl | rfl
   all_goals
    go_upto_region 8 with fail;clear c0 w hk;generalize wr=Wr at *;have I:=Zh (aC lD.o HW.o);have bn:=Zh (aC Ch.o HW.o);obtain⟨sa,sc,w6,bM,bN,aQ,bO⟩:=fJ.copy (aB.o.below I.o) (by omega) (k:=f.length) (by omega);have hs:=asQ g ns.length gc f.length (by omega);have qx:=Zh (aC bn.o aQ);have bq:=uz.o w6 qx.o;obtain⟨Z,d1,d2,d3,d4,d5,d6,d7,d8⟩:=(HG.o w6 qx.o).k9;have r:=Zh (XX bN (XX bO aQ));clear bN bO aQ;go_wp2_with (first | (at_builtin; refine X5 rfl (.tmp 45) (.tmp 48) 32 rfl (.slice none 0 0) (.slice (some (aD g 0)) f.length gc) (.slice sa f.length sc) w6 rfl rfl bM ?_));refine bq.mono ?_;rintro e w7 ⟨rfl,gD⟩;have bu:=aY.o w7;clear bq bM hs Z d1 d2 d3 d4 d5 d6 d7 d8;go_wp2_with fail;refine bu.mono ?_;rintro e dx ⟨rfl,bP⟩;rw[bP];clear bP dx bu;obtain⟨w8,dz,Ew,bQ⟩:=aR w7 #[.int .i64 c] 3;have J:=aC gD Ew;have dH:wrap64 ((f.length:Int)-1)=(f.length:Int)-1:=by unfold wrap64; omega
    obtain⟨ta,tc,w9,P,dA⟩:=mZ.one (r.o.1.below J) (by simp; omega) ⟨6,(f.length:Int)-1,0,0,⟨none,0,[]⟩,0,⟨some (aD w7.heap.size 0),1,[c]⟩⟩ (fun l hl=>by
     rcases hl with rfl | rfl
     ·exact Av _ _
     ·refine⟨ab3 bQ,fun b s=>⟨trivial,fun e=>?_⟩,Qs _⟩;have h1:=(Zq r.o.1.own e).2;have h2:=gD.size;have:w7.heap.size=b:=by simpa [ag] using s
      omega)
    obtain⟨⟨dB,e9,ak⟩,CJ,aS⟩:=dA;have K:(ns.take f.length).length=f.length:=by simp; omega
    rw[K]at P ak aS;simp only[ah.cells,aa.val,Q8,ZX]at P;obtain⟨n9,au⟩:∃ x,x=ns.take f.length++dB:=⟨_,rfl⟩
    rw[<- au]at ak;have V:n9.length=f.length+1:=by have:=congrArg List.length e9; simp at this; rw[au,ZC,K]; omega
    have bA:Hid (fJ 36 (fun _=>True) (.slice ta n9.length tc) n9 w9/\(∀ b,(Value.slice ta n9.length tc).ownBlock=some b->Wr.heap.size<=b)/\n9.map bU=f++[bz ((f.length:Int)-1) c]++(jL q (f.length+1)).take (f.length-f.length)):=by
     rw[V];refine⟨ak,fun b s=>?_,?_⟩
     ·rcases aS with h | ⟨x,h,j⟩
      ·exact r.o.2.1 b (h ▸ s)
      ·have:x=b:=by simpa using h.symm.trans s
       have h2:=QS r.o.2.2.size J.size;omega
     ·rw[au,Qn,e9,List.map_take,yF.o.1,List.take_left,XZ,List.take_zero,XB];rfl
    have bB:Hid (Bw Wr w9):=(aC r.o.2.2 J).trans (CJ.below (aC r.o.2.2 J).size fun b s e=>by have:=r.o.2.1 b e; omega);rw[<- V]at P;clear gD Ew bQ J e9 ak CJ aS K au r qx;go_wp2_with (first | (at_builtin; refine X5 rfl (.tmp 50) (.tmp 59) 32 rfl (.slice sa f.length sc) (.slice (some (aD w8.heap.size 0)) 1 1) (.slice ta n9.length tc) w9 rfl rfl P ?_));clear P dz;go_wp2;go_loopw [12,13] (fun sv iv wr=>∃ (i:Nat) (sa:Option Addr) (sc:Nat) (G:List ah),f.length<=i/\i<=ns.length/\sv=.slice sa G.length sc/\iv=.int .i64 i/\Hid (fJ 36 (fun _=>True) (.slice sa G.length sc) G wr/\(∀ b,(Value.slice sa G.length sc).ownBlock=some b->Wr.heap.size<=b)/\G.map bU=f++[bz ((f.length:Int)-1) c]++(jL q (f.length+1)).take (i-f.length))/\Hid (Bw Wr wr)) (fun _ iv _=>ns.length-(intOf iv).toNat)
    case atStart=>exact⟨f.length,ta,tc,n9,Qs _,by omega,by rw[V],rfl,bA.o,bB.o⟩
    case round=>
     clear bA bB V;obtain⟨i,sa,sc,G,dC,dK,rfl,rfl,R,H⟩:=hrel;by_cases w:i<ns.length
     ·have cZ:=Zh (Yk yF.o.1 dC w);have aA:ns.getD i nz∈ns:=by rw[Ja,ZT w]; exact Qk w
      have FZ:=aB.o.lists _ aA;obtain⟨_,_,e,c0,c1,c2,c3,c4,c5,c6,-,-⟩:=((U.o.below I.o).below H.o).2 i w
      cases e
      simp only[QJ]at c0 c1 c2 c3 c4 c5 c6;generalize ns.getD i nz=N at *;obtain⟨nk,nl,nr,Re,⟨ca,cq,cx⟩,key,⟨oa,oq,ox⟩⟩:=N;simp only[aa.val]at c0 c1 c2 c3 c4 c5 c6;obtain⟨wA,bR,bS,av⟩:=aR wr #[.int .i64 nk,.int .i64 nl,.int .i64 nr,.int .i64 Re,.slice ca cx.length cq,.int .i64 key,.slice oa ox.length oq] 36;have bC:=Zh bR;have Ve:=Zh FZ;have k1:=av.cell 1;have y1:=av.frozen 1;simp only[ZK,ZM,ZL]at k1;have bD:=Zh av;have Cg:=Zh bS;clear bR FZ aA bS av;go_upto_region 15 with fail;rw[bC.o];clear bC c0 c1 c2 c3 c4 c5 c6;go_upto_region 16 with fail;obtain⟨wB,ax⟩:∃ x,wA.setCell (aD wr.heap.size 1) (.int .i64 (i:Int))=x:=⟨_,rfl⟩
      have bE:GB wB wr.heap.size 36 #[.int .i64 nk,.int .i64 (i:Int),.int .i64 nr,.int .i64 Re,.slice ca cx.length cq,.int .i64 key,.slice oa ox.length oq]:=by rw[<- ax]; exact bD.o.set 1 _
      have aG:Bw wr wB:=Cg.o.trans ((show Kept (fun b=>b≠wr.heap.size) wA wB by rw[<- ax]; exact Zn _ _ _ (fun h=>h rfl)).below Cg.o.size fun b s=>by show b≠_; omega);rw[ax];have B:=aC H.o aG;obtain⟨k0,dL,k2,k3,k4,k5,k6⟩:=bE.k7;obtain⟨ta,tc,wC,ay,Mw⟩:=mZ.one (R.o.1.below aG) (by have:=congrArg List.length R.o.2.2; simp at this; omega) ⟨nk,(i:Int),nr,Re,⟨ca,cq,cx⟩,key,⟨oa,oq,ox⟩⟩ (fun l hl=>by
       obtain⟨h1,_,h3⟩:=Ve.o l hl;have h4:=ag.keep (h1) (I.o.size) (fun b s _=>I.o.block b s);refine⟨ag.keep h4 B.size (fun b s _=>B.block b s),fun b s=>⟨trivial,fun e=>?_⟩,h3⟩;have h5:=ag.sV h4 s;have h6:=R.o.2.1 b e;omega)
      obtain⟨⟨mC,eC,jP⟩,bT,bV⟩:=Mw;simp only[ah.cells,aa.val]at ay;obtain⟨n3,oN⟩:∃ x,x=G++mC:=⟨_,rfl⟩
      rw[<- oN]at jP;have aH:n3.length=G.length+1:=by have:=congrArg List.length eC; simp at this; rw[oN,ZC]; omega
      have TH:Hid (fJ 36 (fun _=>True) (.slice ta n3.length tc) n3 wC/\(∀ b,(Value.slice ta n3.length tc).ownBlock=some b->Wr.heap.size<=b)/\n3.map bU=f++[bz ((f.length:Int)-1) c]++(jL q (f.length+1)).take (i+1-f.length)):=by
       rw[aH];refine⟨jP,fun b s=>?_,?_⟩
       ·rcases bV with h | ⟨x,h,j⟩
        ·exact R.o.2.1 b (h ▸ s)
        ·have:x=b:=by simpa using h.symm.trans s
         have h2:=B.size;omega
       ·rw[oN,Qn,eC,R.o.2.2,cZ.o];simp only[QH];rfl
      have df:Hid (Bw Wr wC):=B.trans (bT.below B.size fun b s e=>by have:=R.o.2.1 b e; omega);rw[<- aH]at ay;clear bE aG B eC jP bT bV oN R H ax bD Cg k1 y1 Ve aH;go_wp2_with (first | (at_builtin; refine X5 rfl (.tmp 74) (.tmp 76) 32 rfl (.slice sa G.length sc) (.slice (some (aD wB.heap.size 0)) 1 1) (.slice ta n3.length tc) wC rfl rfl ay ?_));clear ay;go_wp2;go_roundw
      case rel=>exact⟨i+1,ta,tc,n3,by omega,by omega,rfl,by go_num,TH.o,df.o⟩
      case measure=>simp[intOf]; omega
     ·obtain rfl:i=ns.length:=by omega
      have hM:(f++[bz ((f.length:Int)-1) c]).length=f.length+1:=by simp
      have aJ:G.map bU=(f++[bz ((f.length:Int)-1) c])++jL q (f++[bz ((f.length:Int)-1) c]).length:=by
       have hl:=congrArg List.length yF.o.1;rw[ZB,ZC,zx]at hl;rw[R.o.2.2,hM,X0 (by rw[zx]; omega)]
      obtain⟨dD,dE,t8,tq,-,-⟩:=Em (fun n hn=>(Zx.1 hn).elim (yF.o.2.1 n) fun e=>by rw[Zw]at e; rw[e]; simp[bz]) aJ;obtain⟨sg,dM,dF,-,-,aT,u,-⟩:=R.o.1.nodes (by omega) (by omega);injection dF with hsa _ hsc;subst hsa hsc;have C:fV ts q G=some O:=by rw[<- IX,aJ,hM]; exact yF.o.2.2.1
      have zN:=aC bn.o H.o;have Pq:=aC I.o H.o;have TK:=S.o wr zN (some (aD sg 0)) sc G aT u O C t8 tq;obtain⟨Z,d1,d2,d3,d4,d5,d6,d7,d8⟩:=(HG.o wr zN).k9;have FD:=Zh fun (x:World) (j:Bw wr x)=>l9.o x (aC zN j) (some (aD g 0)) gc ns ((U.o.below Pq).below j) bg.o F yF.o.2.2.2.1
      have pJ:=Zh fun (x:World) (j:Bw wr x)=>l9.o x (aC zN j) (some (aD sg 0)) sc G (aT.below j) u O C
      have uw:=Zh yF.o.2.2.2.2;have gX:=Zh zN;generalize (F.getD (F.length-1) pz).cost=ca at *;generalize (O.getD (O.length-1) pz).cost=cb at *;clear hM aJ dD dE t8 tq aT u C zN Pq R H S l9 yF U bg aF aB;go_wp2_with fail;refine TK.mono ?_;rintro e wE ⟨rfl,lG⟩;have Bq:=FD.o wE lG;obtain⟨f0,f1,f2,f3,f4,f5,f6,f7,f8⟩:=(HG.o wE (aC gX.o lG)).k9;have mU:=Zh lG;clear TK lG Z d1 d2 d3 d4 d5 d6 d7 d8;go_wp2_with fail;refine Bq.mono ?_;rintro e wF ⟨rfl,bW⟩;have X:=aC mU.o bW;have bF:=pJ.o wF X;obtain⟨Z,d1,d2,d3,d4,d5,d6,d7,d8⟩:=(HG.o wF (aC gX.o X)).k9;have dh:=Zh X;clear Bq bW X f0 f1 f2 f3 f4 f5 f6 f7 f8;go_wp2_with fail;refine bF.mono ?_;rintro e wG ⟨rfl,bX⟩;have di:=Zh (aC bY.o (aC gX.o (aC dh.o bX)));have dI:((ca:Nat):Int)<=((cb:Nat):Int):=by have:=uw.o; omega
      clear bF bX Z d1 d2 d3 d4 d5 d6 d7 d8;go_wp2;go_ret;exact⟨rfl,di.o⟩
