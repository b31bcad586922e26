import Derived.Test.YtjndadibondgbaaGreatDoorL14
import Derived.Test.YtjndadibondgbaaGreatDoorL16
import Derived.Test.YtjndadibondgbaaGreatDoorL18
set_option linter.all false
set_option maxRecDepth 100000
set_option maxHeartbeats 16000000
namespace Go.Proofs.Zz
open Go.RowKit Go.Shelf
variable {ps:List aB} {p:aB} {ts:List af} {q:ae} {pl:List ah} {w:World} {n:ah} {fn:Func} {s u:Tmp} {ty:TypeId}
structure iy(ts:List af)(q:ae)(pl:List ah)(w:World)(ps:List aB):Prop where
 eq:fB ts q pl ps.length=some (ps.map aB.d)
 ok:∀ i,i<ps.length->(ps.getD i aT).Ok w
 small:∀ i,i<ps.length->(ps.getD i aT).sources<2 ^ q.src.xs.length/\(ps.getD i aT).clauses<2 ^ q.wh.length
theorem iy.nil(ts:List af)(q:ae)(pl:List ah)(w:World):iy ts q pl w []:=⟨rfl,fun i a=>absurd a (by simp),fun i a=>absurd a (by simp)⟩
theorem PD{i:Nat}(hi:i<(ps++[p]).length):(i<ps.length/\(ps++[p]).getD i aT=ps.getD i aT)∨(i=ps.length/\(ps++[p]).getD i aT=p):=by
 rw[Ia];rw[ZC]at hi;have a:i<ps.length+1:=hi;by_cases h:i<ps.length
 ·rw[Qu h]; exact .inl ⟨h,rfl⟩
 ·rw[Qv h,Qu (by omega)]; exact .inr ⟨by omega,rfl⟩
theorem VC(w:World):aT.Ok w:=⟨⟨by simp[aT],fun i a=>absurd a (by simp[aT])⟩,Qs _,Zf _,Zf _,Zf _,Zf _⟩
theorem iy.ins(h:iy ts q pl w ps)(n:ah)(hm:∀ m,m<(aJ n).length->0<=(aJ n).getD m 0/\(aJ n).getD m 0<(ps.length:Int)) :
  ∀ i,i<(dW n ps).length->((dW n ps).getD i aT).Ok w/\((dW n ps).getD i aT).sources<2 ^ q.src.xs.length/\((dW n ps).getD i aT).clauses<2 ^ q.wh.length:=fun i b=>by
 rw[qX]at b;have e:(dW n ps).getD i aT=ps.getD ((aJ n).getD i 0).toNat aT:=by unfold dW; simp[List.getD,b]
 have d:=hm i b;rw[e];have a:((aJ n).getD i 0).toNat<ps.length:=by omega
 exact⟨h.ok _ a,h.small _ a⟩
theorem iy.step(h:iy ts q pl w ps)(hn:pl.getD ps.length nz=n)(hm:∀ m,m<(aJ n).length->0<=(aJ n).getD m 0/\(aJ n).getD m 0<(ps.length:Int))(hf:(kF n.kind (dW n ps)&&bJ ts q n ((dW n ps).getD 0 aT).d ((dW n ps).getD 1 aT).d)=true)
  (hd:p.d=iB ts q n ((dW n ps).getD 0 aT).d ((dW n ps).getD 1 aT).d) (hs:p.sources<2 ^ q.src.xs.length) (hc:p.clauses<2 ^ q.wh.length) {W:World} (hk:p.Ok W) (ho:p.order=n.co∨p.order=((dW n ps).getD 0 aT).order∨p.order=⟨none,0,[]⟩) (hco:n.co.At w) (hcap:n.co.xs.length<=n.co.cap) :
  iy ts q pl w (ps++[p]):=by
 have a:p.order.At w/\p.order.xs.length<=p.order.cap:=by
  rcases ho with e | e | e
  ·rw[e]; exact⟨hco,hcap⟩
  ·rw[e];by_cases f:0<(dW n ps).length
   ·have:=(h.ins n hm 0 f).1; exact⟨this.order,this.cap⟩
   ·have g:(dW n ps).getD 0 aT=aT:=by simp[List.getD,f]
    rw[g]; exact⟨(VC w).order,(VC w).cap⟩
  ·rw[e]; exact⟨⟨by simp,fun i b=>absurd b (by simp)⟩,Qs _⟩
 refine⟨?_,fun i b=>?_,fun i b=>?_⟩
 ·rw[ZC]
  show (fB ts q pl ps.length).bind _=_
  rw[h.eq,hn]
  show kX ts q n _=_
  rw[step_eq,Qu hf,Qn,<- hd];rfl
 ·rcases PD b with⟨hl,e⟩ | ⟨_,e⟩ <;> rw[e]
  ·exact h.ok i hl
  ·exact⟨a.1,a.2,hk.sources,hk.clauses,hk.size,hk.cost⟩
 ·rcases PD b with⟨hl,e⟩ | ⟨_,e⟩ <;> rw[e]
  ·exact h.small i hl
  ·exact⟨hs,hc⟩
theorem iy.fail(h:iy ts q pl w ps)(hn:pl.getD ps.length nz=n)(hl:ps.length<pl.length)(hp:dI pl=true)(hf:(kF n.kind (dW n ps)&&bJ ts q n ((dW n ps).getD 0 aT).d ((dW n ps).getD 1 aT).d)=false):fV ts q pl=none:=by
 have e:fB ts q pl (ps.length+1)=none:=by
  show (fB ts q pl ps.length).bind _=_
  rw[h.eq,hn]
  show kX ts q n _=_
  rw[step_eq,Qv (by rw[hf]; simp)]
 unfold fV;rw[Qv (by rw[hp]; simp),EY e pl.length (by omega)];rfl
theorem iy.last(h:iy ts q pl w ps)(hl:ps.length=pl.length)(hp:dI pl=true) :
  fV ts q pl=if (dO (pl.getD (pl.length-1) nz).kind&&pO q (pl.getD (pl.length-1) nz).kind (ps.getD (pl.getD (pl.length-1) nz).l.toNat aT).order.xs)=true then some (ps.map aB.d) else none:=by
 unfold fV;rw[Qv (by rw[hp]; simp),<- hl,h.eq];simp only[Option.bind_some];have e:((ps.map aB.d).getD (pl.getD (ps.length-1) nz).l.toNat pz)=(ps.getD (pl.getD (ps.length-1) nz).l.toNat aT).d:=uO aB.d ps _ aT;rw[e];rfl
theorem iy.nine(h:iy ts q pl w ps)(hl:ps.length=pl.length)(h1:1<=pl.length)(hk:(pl.getD (pl.length-1) nz).kind=9):q.group=false:=by
 have e:ps.length=(pl.length-1)+1:=by omega
 have g:=h.eq;rw[e]at g;have b:(fB ts q pl (pl.length-1)).bind (kX ts q (pl.getD (pl.length-1) nz))=some (ps.map aB.d):=g
 cases h4:fB ts q pl (pl.length-1) with
 | none => rw[h4]at b; cases b
 | some ds =>
  rw[h4]at b;have f:kX ts q (pl.getD (pl.length-1) nz) ds=some (ps.map aB.d):=b;unfold kX at f;split at f
  ·rename_i a
   rw[Qo]at a;have a:=a.2;unfold bJ at a;rw[hk]at a;simp at a;exact a.1
  ·cases f
theorem adS(f:aS)(ts:List af)(q:ae)(po:Option Addr)(pc:Nat)(pl:List ah)(w0 w:World)(hb0:Bw w0 w)(ok:Ok ts q)(hf:f.At ts q w)(hn0:fq w0 po pl)(hsh:eG w 0)(hcap:∀ i,i<pl.length->(pl.getD i nz).co.xs.length<=(pl.getD i nz).co.cap)
  (hgr:q.group=false->aM q.ord.xs q.aK.xs.length=true) (agK:q.ord.xs.length<=1000) :
  Calls Tryz.prog 40 #[.agg (f.cells ts q),.slice po pl.length pc] w (fun e w'=>Bw w w'/\((∃ ds,fV ts q pl=some ds/\∃ (ao:Option Addr) (cap:Nat) (ps:List aB),e=.returned (.tuple #[.slice ao ps.length cap,.bool true])/\PartsAt w' ao ps/\ps.map aB.d=ds/\(∀ a,ao=some a->w.heap.size<=a.block)/\∀ i,i<ps.length->(ps.getD i aT).Ok w0)∨(fV ts q pl=none/\e=.returned (.tuple #[.slice none 0 0,.bool false])))):=by
 obtain⟨LK,GN⟩:=eY (fV ts q pl)
 rw[<- GN];obtain⟨v0,v1,v2,v3,v4,v5,v6,v7,v8,v9,dJ,dK,dL,dQ,dM,dN,dP,dR,dS,dU,dV,-⟩:=Ju f ts q;have bR:Hid (q.cells=#[v0,v1,v2,v3,v4,v5,v6]):=by show _=_; rw[dM,dN,dP,dR,dS,dU,dV]; rfl
 clear dM dN dP dR dS dU dV;obtain⟨w1,dX,B,dY⟩:=aR w ((f.cells ts q)) 70;have G:=B;have cK:=dY;obtain⟨bD,bN,bA,bG,bO,bT,bQ,dF,dD,dE,aU,aZ,aV⟩:=cK.k13 (by rw[dQ]; rfl);have H:=hn0.below hb0;have aF:=Zh hb0;have WG:=hd hn0;clear hb0 hn0;have gq:=H.1;have Q:=Us po pc pl w1 (H.below G) (hsh.below G);rw[dQ]at dX;rw[dQ];have aG:=Zh dQ;have HC:=Zh G;clear dY cK B
 cases hip:dI pl with
 | false =>
  have R:Hid (LK=none):=by show _=_; rw[GN]; unfold fV; rw[Qu hip]
  rw[hip]at Q;clear hip GN hf H hsh hcap hgr ok aG;go_enter Tryz.func40,Tryz.ntmps40;go_wp2_with fail;refine Q.mono ?_;rintro e w2 ⟨rfl,M⟩;have HB:=Zh (aC HC.o M);clear M;go_wp2;go_ret2;exact⟨HB.o,.inr ⟨R.o,rfl⟩⟩
 | true =>
 rw[hip]at Q;obtain⟨fO,gz,dZ⟩:=adJ hip;obtain⟨i0,hi,ed,ek,eu⟩:=Zy Tryz.Pz;have bS:Hid (∀ x:World,w1.heap.size<=x.heap.size->∃ w',(Instr.makeSlice 71 (.int .i64 0) (.int .i64 (pl.length:Int))).run Tryz.prog x=.ok (.slice (some (aD x.heap.size 0)) 0 pl.length) w'/\w'.ownsRow w1.heap.size 75 6 (.slice (some (aD x.heap.size 0)) 0 pl.length) 0 []/\Bw x w'):=fun x k=>by
  obtain⟨w',h1,h2,h3⟩:=run_make_own (P:=Tryz.prog) x w1.heap.size 71 75 i0 _ 6 Tryz.underlying71 hi ed ek .i64 .i64 pl.length (by rw[eu]; omega) (by unfold maxLen; omega) k;exact⟨w',h1,h2,(Zo (s:=fun _=>True) h3 (fun r e=>by cases e)).below (Qs _) (fun _ _=>trivial)⟩
 have aH:=Zh hip;have aL:=Zh dZ;have bU:=Zh GN;have HF:=Zh hf;have HN:Hid _:=H;have bV:Hid _:=hsh;have aA:=Zh hcap;have tY:=Zh hgr;have Ck:=Zh ok;have bW:=Zh agK;have I:=hd G;have Mm:=Zh G.size;clear hip dZ GN hf H hsh hcap hgr ok agK dQ G hi ed ek eu;go_enter Tryz.func40,Tryz.ntmps40;go_wp2_with fail;refine Q.mono ?_;rintro e w2 ⟨rfl,M⟩;clear Q;obtain⟨w3,fP,W,eB⟩:=bS.o w2 M.size;have fu:=hd W;have fw:=Zh (aC M eB);clear M eB W bS dX;go_wp2;clear fP;go_loopw [6,21] (fun pv iv wr=>∃ ps:List aB,ps.length<=pl.length/\iv=.int .i64 (ps.length:Int)/\Hid (wr.ownsRow w1.heap.size 75 6 pv ps.length (ps.flatMap aB.list))/\Hid (iy ts q pl w0 ps)/\Hid (Bw w1 wr)) (fun _ iv _=>pl.length-(intOf iv).toNat)
 case atStart=>exact⟨[],Zf _,rfl,fu.o,iy.nil _ _ _ _,fw.o⟩
 case round=>
  obtain⟨ps,fQ,rfl,av,t,xW⟩:=hrel;have z:=aC I.o xW.o;obtain⟨pa,X,rfl,ax⟩:=IE av.o (by omega) (fun i hi=>(t.o.ok i hi).below (aC aF.o z));by_cases N:ps.length<pl.length
  ·obtain⟨nb,no,bB,m0,m1,m2,m3,m4,m5,m6,eD,eF⟩:=(fq.below z HN.o).2 ps.length N;subst bB;obtain⟨-,-,-,-,-,-,-,-,-,-,D,ay⟩:=HN.o.2 ps.length N;obtain⟨-,-,-,-,-,-,-,-,-,-,-,bC⟩:=WG.o.2 ps.length N;have S:=aA.o ps.length N;have PE:=aL.o ps.length N;obtain⟨n,H⟩:=eX (pl.getD ps.length nz)
   rw[H]at m0 m1 m2 m3 m4 m5 m6 eD eF D ay bC S PE;obtain⟨B,E,F⟩:=EZ PE;have Cz:Hid (∀ x,Bw w x->Calls Tryz.prog 58 #[.agg n.cells] x fun e w'=>∃ b,e=.returned (.slice (some (aD b 0)) (aJ n).length 2)/\aI w' (some (aD b 0)) (aJ n)/\x.heap.size<=b/\Bw x w'):=fun x k=>zW n x (Jv k bV.o) B E
   have aN:=t.o.ins n F;have Kb:Hid (∀ (x:World) (bs:Nat) (v:Value),Bw w x->x.ownsRow bs 75 6 v (dW n ps).length ((dW n ps).flatMap aB.list)->∃ a c,v=.slice a (dW n ps).length c/\PartsAt x a (dW n ps)):=fun x _ v k ho=>IE ho (by rw[qX]; have:=ql n; omega) (fun i hi=>(aN i hi).1.below (aC aF.o k))
   have aO:Hid (∀ (x:World) (a:Option Addr) (c:Nat),PartsAt x a (dW n ps)->Cb 59 #[.int .i64 n.kind,.slice a (dW n ps).length c] x (.bool (kF n.kind (dW n ps)))):=fun x a c h=>Lb n.kind a c (dW n ps) x h
   have Cj:Hid (∀ (x:World) (a:Option Addr) (c:Nat),Bw w x->PartsAt x a (dW n ps)->Cb 60 #[.agg #[v0,v1,v2,v3,v4,v5,v6,v7,v8,v9,dJ,dK,dL],.agg n.cells,.slice a (dW n ps).length c] x (.bool (bJ ts q n ((dW n ps).getD 0 aT).d ((dW n ps).getD 1 aT).d))):=fun x a c k h=>by
    rw[<- aG.o];exact adO f ts q n a c (dW n ps) x Ck.o (HF.o.below k) (Qt k D) (Qt k ay) S h B E (by rw[qX,mh])
   have J:Hid (∀ (x:World) (a:Option Addr) (c:Nat),Bw w x->PartsAt x a (dW n ps)->bJ ts q n ((dW n ps).getD 0 aT).d ((dW n ps).getD 1 aT).d=true->kF n.kind (dW n ps)=true->Calls Tryz.prog 61 #[.agg #[v0,v1,v2,v3,v4,v5,v6,v7,v8,v9,dJ,dK,dL],.agg n.cells,.slice a (dW n ps).length c] x fun e w'=>∃ p:aB,e=.returned (.agg p.cells)/\iy ts q pl w0 (ps++[p])/\Bw x w'):=fun x a c k h fo gm=>by
    rw[<- aG.o];obtain⟨fT,xS⟩:=Ux PE fo;refine(UE f ts q n a c (dW n ps) x Ck.o (HF.o.below k) (Qt k D) (Qt k ay) S h B E (by rw[qX,mh]) fT xS (fun i hi=>(aN i hi).2)).mono ?_;rintro e w' ⟨p,he,hd,fU,hs,hc,ho,hb⟩;exact⟨p,he,t.o.step H F (by rw[gm,fo]; rfl) hd hs hc fU ho bC S,hb⟩
   have bX:Hid (∀ O fb,O=kF n.kind (dW n ps)->fb=bJ ts q n ((dW n ps).getD 0 aT).d ((dW n ps).getD 1 aT).d->(O&&fb)=false->LK=none):=fun O fb e1 e2 h=>by
    rw[bU.o];exact t.o.fail H N aH.o (by rw[<- e1,<- e2]; exact h)
   have bY:Hid (∀ m,m<(aJ n).length->(dW n ps).take (m+1)=(dW n ps).take m++[ps.getD ((aJ n).getD m 0).toNat aT]):=fun m hm=>adK hm
   have fA:=Zh (qX n ps);have fB:=Zh (ql n);have bZ:=Zh F;obtain⟨KB,bE⟩:∃ x,x=kF n.kind (dW n ps):=⟨_,rfl⟩
   obtain⟨FB,bF⟩:∃ x,x=bJ ts q n ((dW n ps).getD 0 aT).d ((dW n ps).getD 1 aT).d:=⟨_,rfl⟩
   have T:=Zh (bX.o KB FB bE bF);rw[<- bE]at aO J;rw[<- bF]at Cj J;clear bE bF bX F aN PE B E eD eF D ay bC S H;generalize dW n ps=IV at *;generalize aJ n=L at *;obtain⟨nk,nl,nr,ns,⟨ca,cc,cl⟩,key,⟨da,dc,co⟩⟩:=n;simp only[ah.cells,aa.val]at *;obtain⟨l,Ci⟩:∃ x,x=wr:=⟨_,rfl⟩
   subst Ci;obtain⟨wb,Y,O,gn⟩:=aR l #[.int .i64 nk,.int .i64 nl,.int .i64 nr,.int .i64 ns,.slice ca cl.length cc,.int .i64 key,.slice da co.length dc] 36;obtain⟨K,n1,n2,n3,n4,n5,n6⟩:=gn.k7;have cu:=Cz.o wb (aC z O);have TZ:=Zh O;have A:=hd gn;have U:Hid _:=ax;have cz:Hid _:=av;clear ax z O gn Cz;go_wp2_with fail;refine cu.mono ?_;rintro e w4 ⟨ib,rfl,bH,fZ,eH⟩;clear cu Y m0 m1 m2 m3 m4 m5 m6 K n1 n2 n3 n4 n5 n6;have qy:=hd eH;have fC:Hid _:=bH;have Ko:=bH.1;clear eH bH fZ;go_wp2;go_loopw [9,28] (fun qv jv wx=>∃ m:Nat,m<=L.length/\jv=.int .i64 (m:Int)/\Hid (wx.ownsRow w4.heap.size 75 6 qv (IV.take m).length ((IV.take m).flatMap aB.list))/\Hid (Bw w4 wx)) (fun _ jv _=>L.length-(intOf jv).toNat)
   case atStart=>exact⟨0,Zf _,rfl,ZA _ _ _ _,Qr _ _⟩
   case round=>
    obtain⟨m,hm,rfl,HQ,KM⟩:=hrel;have qR:=aC TZ.o (aC qy.o KM.o);by_cases Uo:m<L.length
    ·obtain⟨gB,gF,e',eO⟩:=Qe (Qt KM.o fC.o) Uo
     cases e'
     have aP:=eO m Uo;rw[QJ]at aP;obtain⟨az,eP⟩:=bZ.o m Uo;have V:=Zh (bY.o m Uo);obtain⟨j,hj⟩:=Jh az;rw[hj]at aP eP V;rw[ZY]at V;have fD:j<ps.length:=by omega
     obtain⟨⟨pb,C,bI,c0,c1,c2,c3,c4,c5⟩,-⟩:=(X8 qR U.o).2 j fD;subst bI;obtain⟨p,hp⟩:=eY (ps.getD j aT)
     rw[<- hp]at c0 c1 c2 c3 c4 c5 V;obtain⟨qa,qm,qc,rfl⟩:=Zr HQ.o;have cO:=KM.o.size;obtain⟨v',w5,pW,rQ,eQ,⟨xa,xm,xc,rfl⟩,bK⟩:=JW wr w4.heap.size (.slice qa qm qc) (IV.take m) HQ.o (by rw[XF]; have:=fB.o; omega) cO p 71;rw[<- V.o]at rQ;have Iy:Hid _:=rQ;have lD:=Zh (KM.o.trans (eQ.below cO (fun b hb e=>by have:=(Zq HQ.o e).1; omega)));obtain⟨pk,ss,cs,⟨oa,ni,ox⟩,pz,pt⟩:=p;simp only[aB.cells,aa.val]at *;clear hp rQ eQ bK eO hj V HQ KM qR az;go_wp2_with (first | (at_builtin; refine X5 rfl (.tmp 32) (.tmp 37) 71 rfl (.slice qa qm qc) (.slice (some (aD wr.heap.size 0)) 1 1) (.slice xa xm xc) w5 rfl rfl pW ?_));clear pW c0 c1 c2 c3 c4 c5 aP;go_wp2;go_roundw
     case rel=>exact⟨m+1,by omega,by go_num,Iy.o,lD.o⟩
     case measure=>simp[intOf]; omega
    ·obtain rfl:m=L.length:=by omega
     rw[X0 (by rw[fA.o]; exact Qs _)]at HQ;obtain⟨w5,NL⟩:∃ x,x=wr:=⟨_,rfl⟩
     subst NL;have ag:=aC qy.o KM.o;have aQ:=aC TZ.o ag;have aW:=aC xW.o aQ;obtain⟨qa,qc,rfl,bL⟩:=Kb.o w5 _ _ (aC I.o aW) HQ.o;have cZ:=aO.o w5 qa qc bL;have K:w5.cell? (aD l.heap.size 0)=some (.int .i64 nk):=cB ag (QM A.o 0);have df:Hid _:=bL;have dh:=Zh aW;have di:=Zh ag;have dm:=Zh aQ;clear ag aQ aW bL HQ KM Kb aO bY bZ hm Uo;go_wp2_with fail;refine cZ.mono ?_;rintro e w6 ⟨rfl,Z⟩;clear cZ K;have u:=Zh (aC dh.o Z);have Md:=Zh (aC di.o Z);have dn:=Zh (aC dm.o Z);have aX:Hid _:=X8 Z df.o;clear Z df dh di dm
     cases KB with
     | false =>
      have R:=Zh (T.o rfl);have mU:=Zh (aC I.o u.o);clear Cj J T;go_wp2;go_ret2;exact⟨mU.o,.inr ⟨R.o,rfl⟩⟩
     | true =>
      have dw:=Cj.o w6 qa qc (aC I.o u.o) aX.o;have f0:=cB u.o bD;have f1:=cB u.o bN;have f2:=cB u.o bA;have f3:=cB u.o bG;have f4:=cB u.o bO;have f5:=cB u.o bT;have f6:=cB u.o bQ;have f7:=cB u.o dF;have f8:=cB u.o dD;have f9:=cB u.o dE;have aY:=cB u.o aU;have bf:=cB u.o aZ;have bg:=cB u.o aV;have K:w6.cell? (aD l.heap.size 0)=some (.int .i64 nk):=cB Md.o (QM A.o 0);have n1:w6.cell? (aD l.heap.size 1)=some (.int .i64 nl):=cB Md.o (QM A.o 1);have n2:w6.cell? (aD l.heap.size 2)=some (.int .i64 nr):=cB Md.o (QM A.o 2);have n3:w6.cell? (aD l.heap.size 3)=some (.int .i64 ns):=cB Md.o (QM A.o 3);have n4:w6.cell? (aD l.heap.size 4)=some (.slice ca cl.length cc):=cB Md.o (QM A.o 4);have n5:w6.cell? (aD l.heap.size 5)=some (.int .i64 key):=cB Md.o (QM A.o 5);have n6:w6.cell? (aD l.heap.size 6)=some (.slice da co.length dc):=cB Md.o (QM A.o 6);go_wp2_with fail;refine dw.mono ?_;rintro e w7 ⟨rfl,gD⟩;clear dw f0 f1 f2 f3 f4 f5 f6 f7 f8 f9 aY bf bg K n1 n2 n3 n4 n5 n6;have y:=Zh (aC u.o gD);have UF:=Zh (aC Md.o gD);have fE:=Zh (aC dn.o gD);have dx:Hid _:=X8 gD aX.o;clear gD aX u Md dn
      cases FB with
      | false =>
       have R:=Zh (T.o rfl);have mU:=Zh (aC I.o y.o);clear Cj J T;go_wp2;go_ret2;exact⟨mU.o,.inr ⟨R.o,rfl⟩⟩
      | true =>
       have dz:=J.o w7 qa qc (aC I.o y.o) dx.o (by trivial) (by trivial);have f0:=cB y.o bD;have f1:=cB y.o bN;have f2:=cB y.o bA;have f3:=cB y.o bG;have f4:=cB y.o bO;have f5:=cB y.o bT;have f6:=cB y.o bQ;have f7:=cB y.o dF;have f8:=cB y.o dD;have f9:=cB y.o dE;have aY:=cB y.o aU;have bf:=cB y.o aZ;have bg:=cB y.o aV;have K:w7.cell? (aD l.heap.size 0)=some (.int .i64 nk):=cB UF.o (QM A.o 0);have n1:w7.cell? (aD l.heap.size 1)=some (.int .i64 nl):=cB UF.o (QM A.o 1);have n2:w7.cell? (aD l.heap.size 2)=some (.int .i64 nr):=cB UF.o (QM A.o 2);have n3:w7.cell? (aD l.heap.size 3)=some (.int .i64 ns):=cB UF.o (QM A.o 3);have n4:w7.cell? (aD l.heap.size 4)=some (.slice ca cl.length cc):=cB UF.o (QM A.o 4);have n5:w7.cell? (aD l.heap.size 5)=some (.int .i64 key):=cB UF.o (QM A.o 5);have n6:w7.cell? (aD l.heap.size 6)=some (.slice da co.length dc):=cB UF.o (QM A.o 6);clear Cj J T;go_wp2_with fail;refine dz.mono ?_;rintro e w8 ⟨p,rfl,eT,Ew⟩;clear dz f0 f1 f2 f3 f4 f5 f6 f7 f8 f9 aY bf bg K n1 n2 n3 n4 n5 n6;have dA:=aC fE.o Ew;have ai:=aC y.o Ew;have uA:=Ji cz.o dA;obtain⟨v',wz,bM,eU,eZ,⟨xa,xm,xc,rfl⟩,bK⟩:=JW w8 w1.heap.size (.slice pa ps.length X) ps uA (by omega) ai.size p 71;have fF:Hid _:=eU;have fG:=Zh eT;have fH:=Zh (ai.trans (eZ.below ai.size (fun b hb e=>by have:=(Zq uA e).1; omega)));have yF:Hid ((ps++[p]).length=ps.length+1):=by show _=_; simp
       have gu:Hid (∀ x:Int,x=((ps++[p]).length:Nat)->Value.int .i64 x=.int .i64 ((ps++[p]).length:Int)):=fun x h=>by rw[h]
       obtain⟨pk,ss,cs,⟨oa,ni,ox⟩,pz,pt⟩:=p;simp only[aB.cells,aa.val]at bM;simp only[aB.cells,aa.val];clear eU eZ bK eT uA dA ai Ew av t xW cz U dx;go_wp2_with (first | (at_builtin; refine X5 rfl (.tmp 52) (.tmp 57) 71 rfl (.slice pa ps.length X) (.slice (some (aD w8.heap.size 0)) 1 1) (.slice xa xm xc) wz rfl rfl bM ?_));clear bM;go_wp2;go_roundw
       case rel=>
        refine⟨ps++[aB.mk pk ss cs ⟨oa,ni,ox⟩ pz pt],by rw[yF.o]; omega,?_,fF.o,fG.o,fH.o⟩;rw[yF.o];go_num
       case measure=>simp[intOf]; omega
  ·have bn:ps.length=pl.length:=by omega
   obtain⟨N1,gG⟩:∃ N1,pl.length=N1+1:=⟨pl.length-1,by omega⟩
   have eN:pl.length-1=N1:=by omega
   have dB:N1<pl.length:=by omega
   obtain⟨nb,no,bB,m0,m1,m2,m3,m4,m5,m6,-,-⟩:=(fq.below z HN.o).2 N1 dB;subst bB;have PE:=aL.o N1 dB;have aj:=t.o.last bn aH.o;have bq:Hid ((pl.getD N1 nz).kind=9->q.group=false):=fun h9=>t.o.nine bn fO (by rw[eN]; exact h9)
   rw[<- bU.o,eN]at aj;have dC:=Zh t.o.ok;have fI:=Zh t.o.ok;have fJ:Hid (∀ a,pa=some a->w.heap.size<=a.block):=fun a e=>by subst e; have:=(Zq av.o (g:=a.block) rfl).1; have:=Mm.o; omega
   obtain⟨n,H⟩:=eX (pl.getD N1 nz)
   rw[H]at m0 m1 m2 m3 m4 m5 m6 PE bq aj;have wN:Hid _:=@Uu n N1 PE;obtain⟨l,Ci⟩:∃ x,x=wr:=⟨_,rfl⟩
   subst Ci;have ak:Hid (∀ x,Cb 62 #[.int .i64 n.kind] x (.bool (dO n.kind))):=fun x=>(zz n.kind x).mono (fun e w' h=>⟨h.1,by rw[h.2]; exact Qr _ _⟩)
   have bu:Hid (∀ (o:aa) (x:World),Bw w x->o.At x->o.xs.length<=o.cap->Cb 63 #[.agg #[v0,v1,v2,v3,v4,v5,v6],.int .i64 n.kind,.slice o.ad o.xs.length o.cap] x (.bool (pO q n.kind o.xs))):=fun o x k ho gp=>by
    rw[<- bR.o];exact K7 q n.kind o.ad o.cap o.xs x (HF.o.query.below k) ⟨fun h9=>tY.o (bq.o h9),bW.o⟩ ho gp
   have YD:=Zh aj;have fK:Hid (ps.length=N1+1):=by show _=_; omega
   have gy:¬ (ps.length:Int)<(N1:Int)+1:=by omega
   have U:Hid _:=ax;clear aj H PE eN bq ax aL aA bV HF tY aH bW bR bn fQ;obtain⟨nk,nl,nr,ns,⟨ca,cc,cl⟩,key,⟨da,dc,co⟩⟩:=n;simp only[ah.cells,aa.val]at *;obtain⟨wb,Y,O,gn⟩:=aR l #[.int .i64 nk,.int .i64 nl,.int .i64 nr,.int .i64 ns,.slice ca cl.length cc,.int .i64 key,.slice da co.length dc] 36;obtain⟨K,n1⟩:=gn.k2;have TZ:=hd O;have Ca:=Zh (aC z O);have PG:=aC xW.o O;have h0:=cB PG bD;have h1:=cB PG bN;have h2:=cB PG bA;have h3:=cB PG bG;have h4:=cB PG bO;have h5:=cB PG bT;have h6:=cB PG bQ;clear gn O z PG;obtain⟨OB,bP⟩:∃ x,x=dO nk:=⟨_,rfl⟩
   rw[<- bP]at ak YD wN
   cases OB with
   | false =>
    have R:Hid (LK=none):=by show _=_; rw[YD.o]; rfl
    clear YD bu wN bP;go_upto_region 18 with fail;clear Y m0 m1 m2 m3 m4 m5 m6;refine QA (by kernel_rfl) (by kernel_rfl) ?_;refine qS (.pointer (some (aD l.heap.size 0))) ?_;refine qC (.int .i64 nk) K ?_;go_big_quiet_want;refine⟨.bool false,fun x k=>?_,?_⟩
    ·have hC:=QC k (ak.o x);go_simp
    simp only[pU];go_big_quiet_on;refine qS (.bool true) ?_;go_big_quiet_want;refine⟨.bool true,fun x k=>?_,?_⟩
    ·go_simp
    simp only[pU];go_big_quiet_on;go_big_quiet_skip
    try simp only[pU]
    iterate 11 (go_big_quiet_skip; try simp only[pU])
    refine qS (.bool true) ?_;refine XY ?_;intro wE lG;have mU:=Zh (aC Ca.o lG);clear lG;go_wp2;go_ret2;exact⟨mU.o,.inr ⟨R.o,rfl⟩⟩
   | true =>
    obtain⟨az,eP⟩:=wN.o rfl;obtain⟨j,hj⟩:=Jh az;subst hj;have dG:j<ps.length:=by have:=fK.o; omega
    rw[ZY]at YD;obtain⟨⟨pb,C,bI,-,-,-,c3,-,-⟩,-⟩:=(X8 TZ.o U.o).2 j dG;subst bI;have bz:=dC.o j dG;obtain⟨o,ho⟩:∃ o,o=(ps.getD j aT).order:=⟨_,rfl⟩
    have au:∀ x,Bw wb x->Cb 63 #[.agg #[v0,v1,v2,v3,v4,v5,v6],.int .i64 nk,.slice o.ad o.xs.length o.cap] x (.bool (pO q nk o.xs)):=fun x k=>bu.o o x (aC Ca.o k) (by rw[ho]; exact Qt (aC aF.o (aC Ca.o k)) bz.order) (by rw[ho]; exact bz.cap)
    rw[<- ho]at c3 YD;clear ho bz bu wN bP dC;obtain⟨EB,fe⟩:∃ x,x=pO q nk o.xs:=⟨_,rfl⟩
    rw[<- fe]at au YD;clear fe;obtain⟨oa,ni,ox⟩:=o;simp only[aa.val]at c3 au;have dH:=Zh au;clear au
    cases EB with
    | false =>
     have R:Hid (LK=none):=by show _=_; rw[YD.o]; rfl
     clear YD;go_upto_region 18 with fail;clear Y m0 m1 m2 m3 m4 m5 m6;refine QA (by kernel_rfl) (by kernel_rfl) ?_;refine qS (.pointer (some (aD l.heap.size 0))) ?_;refine qC (.int .i64 nk) K ?_;go_big_quiet_want;refine⟨.bool true,fun x k=>?_,?_⟩
     ·have hC:=QC k (ak.o x);go_simp
     simp only[pU];go_big_quiet_on;refine qS (.bool false) ?_;refine qS (.bool false) ?_;refine qS (.pointer (some (aD w.heap.size 0))) ?_;go_big_quiet_want;refine⟨.agg #[v0,v1,v2,v3,v4,v5,v6],fun x k=>?_,?_⟩
     ·have e0:=J7 k h0 h1 h2 h3 h4 h5 h6;go_simp
     simp only[pU];go_big_quiet_on;refine qS (.pointer (some (aD l.heap.size 0))) ?_;refine qC (.int .i64 nk) K ?_;refine qS (.slice (some (aD pb C)) ps.length X) ?_;refine qS (.pointer (some (aD l.heap.size 1))) ?_;refine qC (.int .i64 (j:Int)) n1 ?_;refine qS (.pointer (some (aD pb (C+j*6)))) ?_;refine qS (.pointer (some (aD pb (C+j*6+3)))) ?_;refine qC (.slice oa ox.length ni) c3 ?_;go_big_quiet_want;refine⟨.bool false,fun x k=>?_,?_⟩
     ·have hC:=QC k (dH.o x k);go_simp
     simp only[pU];go_big_quiet_on;refine qS (.bool true) ?_;refine qS (.bool true) ?_;refine XY ?_;intro wE lG;have mU:=Zh (aC Ca.o lG);clear lG;go_wp2;go_ret2;exact⟨mU.o,.inr ⟨R.o,rfl⟩⟩
    | true =>
     have R:Hid (LK=some (ps.map aB.d)):=by show _=_; rw[YD.o]; rfl
     clear YD;go_upto_region 18 with fail;clear Y m0 m1 m2 m3 m4 m5 m6;refine QA (by kernel_rfl) (by kernel_rfl) ?_;refine qS (.pointer (some (aD l.heap.size 0))) ?_;refine qC (.int .i64 nk) K ?_;go_big_quiet_want;refine⟨.bool true,fun x k=>?_,?_⟩
     ·have hC:=QC k (ak.o x);go_simp
     simp only[pU];go_big_quiet_on;refine qS (.bool false) ?_;refine qS (.bool false) ?_;refine qS (.pointer (some (aD w.heap.size 0))) ?_;go_big_quiet_want;refine⟨.agg #[v0,v1,v2,v3,v4,v5,v6],fun x k=>?_,?_⟩
     ·have e0:=J7 k h0 h1 h2 h3 h4 h5 h6;go_simp
     simp only[pU];go_big_quiet_on;refine qS (.pointer (some (aD l.heap.size 0))) ?_;refine qC (.int .i64 nk) K ?_;refine qS (.slice (some (aD pb C)) ps.length X) ?_;refine qS (.pointer (some (aD l.heap.size 1))) ?_;refine qC (.int .i64 (j:Int)) n1 ?_;refine qS (.pointer (some (aD pb (C+j*6)))) ?_;refine qS (.pointer (some (aD pb (C+j*6+3)))) ?_;refine qC (.slice oa ox.length ni) c3 ?_;go_big_quiet_want;refine⟨.bool true,fun x k=>?_,?_⟩
     ·have hC:=QC k (dH.o x k);go_simp
     simp only[pU];go_big_quiet_on;refine qS (.bool false) ?_;refine qS (.bool false) ?_;refine XY ?_;intro wE lG;have mU:=Zh (aC Ca.o lG);have fM:Hid _:=X8 (aC TZ.o lG) U.o;clear lG;go_wp2;go_ret2;exact⟨mU.o,.inl ⟨_,R.o,_,X,ps,rfl,fM.o,rfl,fJ.o,fI.o⟩⟩
theorem GQ{p:Tmp}(h:fn.results=#[.cell p ty,.tmp u,.tmp s])(tmps:Array Value)(P:Program)(w:World) :
  (results fn tmps).run P w=((asAddr (tmps.getD p undef)).run P w).andThen fun a b=>((loadVar ty a).run P b).andThen fun v d=>.ok (.tuple #[v,tmps.getD u undef,tmps.getD s undef]) d:=by
 simp only[results,h];simp[Sem.run_bind,Result.andThen]
theorem Bc{p:Tmp}(h:fn.results=#[.cell p ty,.tmp u,.tmp s]){tmps:Array Value}{P:Program}{B:Nat}{v x y:Value}(hp:tmps.getD p undef=.pointer (some (aD B 0)))(hu:tmps.getD u undef=x)(hs:tmps.getD s undef=y)(hl:(loadVar ty (aD B 0)).run P w=.ok v w) :
  (results fn tmps).run P w=.ok (.tuple #[v,x,y]) w:=by
 rw[GQ h,hp,hu,hs];simp[go_sem]at hl ⊢;simp[hl]
def zY(FI:Int)(LK:Option (List bZ))(ts:List af)(q:ae)(w:World)(e:Ending)(w':World):Prop:=Bw w w'/\((FI≠0/\e=.returned (.tuple #[.agg #[.slice none 0 0,.slice none 0 0,.bool false,.slice none 0 0,.slice none 0 0,.slice none 0 0,.slice none 0 0,.slice none 0 0,.int .u64 0,.int .u64 0,.slice none 0 0,.slice none 0 0,.slice none 0 0],.slice none 0 0,.int .i64 FI]))∨(FI=0/\LK=none/\e=.returned (.tuple #[.agg #[.slice none 0 0,.slice none 0 0,.bool false,.slice none 0 0,.slice none 0 0,.slice none 0 0,.slice none 0 0,.slice none 0 0,.int .u64 0,.int .u64 0,.slice none 0 0,.slice none 0 0,.slice none 0 0],.slice none 0 0,.int .i64 5]))∨(FI=0/\∃ ds,LK=some ds/\∃ (f:aS) (a:Option Addr) (c:Nat) (ps:List aB),e=.returned (.tuple #[.agg (f.cells ts q),.slice a ps.length c,.int .i64 0])/\f.At ts q w'/\PartsAt w' a ps/\ps.map aB.d=ds))
theorem qD(ao:Option Addr)(cap:Nat)(ts:List af)(q:ae)(po:Option Addr)(pc:Nat)(pl:List ah)(w:World)(hx:bu w ao ts)(hq:q.At w)(hkc:q.keys.xs.length<=q.keys.cap)(hoc:q.ord.xs.length<=q.ord.cap)(hn:fq w po pl)(hsh:eG w 0)(hcap:∀ i,i<pl.length->(pl.getD i nz).co.xs.length<=(pl.getD i nz).co.cap) :
  Calls Tryz.prog 24 #[.slice ao ts.length cap,.agg q.cells,.slice po pl.length pc] w (zY (q.check ts) (fV ts q pl) ts q w):=by
 obtain⟨Z,aM,ag,ai⟩:=aR w q.cells 26;obtain⟨w2,aX,aN,aO⟩:=aR Z #[.slice none 0 0,.slice none 0 0,.bool false,.slice none 0 0,.slice none 0 0,.slice none 0 0,.slice none 0 0,.slice none 0 0,.int .u64 0,.int .u64 0,.slice none 0 0,.slice none 0 0,.slice none 0 0] 70;have W:=aN;have K:=aC ag W;have cK:=ai.of (W.block _ ai.lt);obtain⟨bD,bN,bA,bG,bO,bT,bQ⟩:=cK.k7;have ig:=aO;have L:=ES ao cap ts q w2 (hx.below K) (hq.below K) hkc hoc;obtain⟨FI,yD⟩:∃ c,c=q.check ts:=⟨_,rfl⟩
 obtain⟨LK,GN⟩:∃ c,c=fV ts q pl:=⟨_,rfl⟩
 have M:Hid (FI=0->∀ x,Bw w x->Calls Tryz.prog 39 #[.slice ao ts.length cap,.agg q.cells] x fun e w'=>∃ f:aS,e=.returned (.agg (f.cells ts q))/\f.At ts q w'/\f.New x.heap.size/\Bw x w'):=fun h0 x V=>Pp ao cap ts q x (hx.below V) (hq.below V) (Fg (by rw[<- yD]; exact h0)).1.ok
 have rA:Hid (FI=0->∀ (f:aS) (x:World),Bw w x->f.At ts q x->Calls Tryz.prog 40 #[.agg (f.cells ts q),.slice po pl.length pc] x (fun e w'=>Bw x w'/\((∃ ds,LK=some ds/\∃ (ao:Option Addr) (cap:Nat) (ps:List aB),e=.returned (.tuple #[.slice ao ps.length cap,.bool true])/\PartsAt w' ao ps/\ps.map aB.d=ds/\(∀ a,ao=some a->x.heap.size<=a.block)/\∀ i,i<ps.length->(ps.getD i aT).Ok w)∨(LK=none/\e=.returned (.tuple #[.slice none 0 0,.bool false]))))):=fun h0 f x V hf=>by
  obtain⟨h1,_,h3,h4,_⟩:=Fg (ts:=ts) (q:=q) (by rw[<- yD]; exact h0);rw[GN];exact adS f ts q po pc pl w x V h1.ok hf hn (Jv V hsh) hcap h3 (by omega)
 rw[<- yD]at L ⊢;rw[<- GN];have Q:=Zh K;have aU:=Zh hq;have HW:=Zh ag.size;have X:=hd ig;clear yD GN hx hq hkc hoc hn hsh hcap ag aN ai aO cK ig K W;obtain⟨⟨t,sc,src⟩,v,y,wh,j,⟨z,A,k⟩,⟨B,D,l⟩,⟨E,F,G⟩,⟨H,dc,m⟩⟩:=q;have ak:ae.cells ⟨⟨t,sc,src⟩,v,y,wh,j,⟨z,A,k⟩,⟨B,D,l⟩,⟨E,F,G⟩,⟨H,dc,m⟩⟩=#[.slice t src.length sc,.slice v wh.length y,.bool j,.slice z k.length A,.slice B l.length D,.slice E G.length F,.slice H m.length dc]:=rfl;rw[ak]at aM L M ⊢;simp only[aa.val]at bD bN bA bG bO bT bQ;clear ak;go_enter Tryz.func24,Tryz.ntmps24;go_wp2_with fail;refine L.mono ?_;rintro e w3 ⟨rfl,n⟩;clear L aM aX;by_cases hz:FI=0
 ·subst hz;have au:=M.o (by trivial) w3 (aC Q.o n);have d0:=cB n bD;have d1:=cB n bN;have d2:=cB n bA;have d3:=cB n bG;have d4:=cB n bO;have d5:=cB n bT;have d6:=cB n bQ;have av:=hd n;clear n bD bN bA bG bO bT bQ M;go_wp2_with fail;refine au.mono ?_;rintro e w4 ⟨f,rfl,hf,aP,aj⟩;clear au d0 d1 d2 d3 d4 d5 d6;have qy:=Zh (aC av.o aj);have aV:=Zh aj.size;have N:=hd hf;have Mr:=hd aP;have ax:=Zh (QT X.o.lt av.o.size);clear aP;obtain⟨Rh,VD,Ri,S,C,Rj,VE,Rk,Rl,Rm,Rn,Ro,Rp,Rq,dQ⟩:∃ (Rh:Option Addr) (VD Ri S C:Nat) (Rj:Option Addr) (VE Rk:Nat) (Rl:Option Addr) (Rm Rn:Nat) (Ro:Option Addr) (Rp Rq:Nat),f.cells ts ⟨⟨t,sc,src⟩,v,y,wh,j,⟨z,A,k⟩,⟨B,D,l⟩,⟨E,F,G⟩,⟨H,dc,m⟩⟩=#[.slice t src.length sc,.slice v wh.length y,.bool j,.slice z k.length A,.slice B l.length D,.slice E G.length F,.slice H m.length dc,.slice Rh VD Ri,.int .u64 ((S:Nat):Int),.int .u64 ((C:Nat):Int),.slice Rj VE Rk,.slice Rl Rm Rn,.slice Ro Rp Rq]:=⟨f.ca,_,f.cc,_,_,f.ra,_,f.rc,f.na,f.nl,f.nc,f.pa,f.pl,f.pc,rfl⟩
  obtain⟨w5,NL,k5,g5⟩:=aR w4 #[.slice t src.length sc,.slice v wh.length y,.bool j,.slice z k.length A,.slice B l.length D,.slice E G.length F,.slice H m.length dc,.slice Rh VD Ri,.int .u64 ((S:Nat):Int),.int .u64 ((C:Nat):Int),.slice Rj VE Rk,.slice Rl Rm Rn,.slice Ro Rp Rq] 70;have lD:=Zh (aC qy.o k5);have Y:=rA.o (by trivial) f w5 (aC Q.o lD.o) (N.o.below k5);rw[dQ]at Y ⊢;have aW:=Zh dQ;have O:=hd g5;have ay:=Zh k5;obtain⟨p0,p1,p2,p3,p4,p5,p6,p7,p8,p9,bf,bg,bn⟩:=g5.k13;clear aj hf k5 g5 dQ rA;go_wp2_with fail;refine Y.mono ?_;rintro e w6 ⟨I,aQ⟩;clear Y NL;have R:=aC lD.o I;have g6:=O.o.of (I.block _ O.o.lt);rcases aQ with⟨ds,hds,a,c,ps,rfl,hPA,hpd,hbk,apU⟩ | ⟨hds,rfl⟩
  ·skip;have g:=X.o.of (R.block _ X.o.lt);have T:=Zh (vL (World.zU g (.slice t src.length sc) (.slice v wh.length y) (.bool j) (.slice z k.length A) (.slice B l.length D) (.slice E G.length F) (.slice H m.length dc) (.slice Rh VD Ri) (.int .u64 ((S:Nat):Int)) (.int .u64 ((C:Nat):Int)) (.slice Rj VE Rk) (.slice Rl Rm Rn) (.slice Ro Rp Rq)));have r:=World.sH w6 Z.heap.size (.slice t src.length sc) (.slice v wh.length y) (.bool j) (.slice z k.length A) (.slice B l.length D) (.slice E G.length F) (.slice H m.length dc) (.slice Rh VD Ri) (.int .u64 ((S:Nat):Int)) (.int .u64 ((C:Nat):Int)) (.slice Rj VE Rk) (.slice Rl Rm Rn) (.slice Ro Rp Rq);have J:=(aC Q.o R).trans (r.below (aC Q.o R).size (fun b V=>by have:=HW.o; omega));have x0:=g.at 0;have y0:=g.frozen 0;have x1:=g.at 1;have y1:=g.frozen 1;have x2:=g.at 2;have y2:=g.frozen 2;have x3:=g.at 3;have y3:=g.frozen 3;have x4:=g.at 4;have y4:=g.frozen 4;have x5:=g.at 5;have y5:=g.frozen 5;have x6:=g.at 6;have y6:=g.frozen 6;have x7:=g.at 7;have y7:=g.frozen 7;have x8:=g.at 8;have y8:=g.frozen 8;have x9:=g.at 9;have y9:=g.frozen 9;have az:=g.at 10;have aA:=g.frozen 10;have aD:=g.at 11;have aG:=g.frozen 11;have aH:=g.at 12;have aI:=g.frozen 12;have aJ:=(N.o.below (aC ay.o I)).but r Mr.o ax.o (aU.o.below J);have aY:=QS aV.o ay.o.size;have aL:=hPA.but r (fun ad e=>by have:=hbk ad e; have:=ax.o; omega) apU J;have U:Hid (zY (0:Int) LK ts ⟨⟨t,sc,src⟩,v,y,wh,j,⟨z,A,k⟩,⟨B,D,l⟩,⟨E,F,G⟩,⟨H,dc,m⟩⟩ w (.returned (.tuple #[.agg #[.slice t src.length sc,.slice v wh.length y,.bool j,.slice z k.length A,.slice B l.length D,.slice E G.length F,.slice H m.length dc,.slice Rh VD Ri,.int .u64 ((S:Nat):Int),.int .u64 ((C:Nat):Int),.slice Rj VE Rk,.slice Rl Rm Rn,.slice Ro Rp Rq],.slice a ps.length c,.int .i64 0])) (World.mO w6 Z.heap.size (.slice t src.length sc) (.slice v wh.length y) (.bool j) (.slice z k.length A) (.slice B l.length D) (.slice E G.length F) (.slice H m.length dc) (.slice Rh VD Ri) (.int .u64 ((S:Nat):Int)) (.int .u64 ((C:Nat):Int)) (.slice Rj VE Rk) (.slice Rl Rm Rn) (.slice Ro Rp Rq))):=⟨J,.inr (.inr ⟨rfl,ds,hds,f,a,c,ps,by rw[aW.o],aJ,aL,hpd⟩)⟩
   unfold World.mO at T U;obtain⟨r0,r1,r2,r3,r4,r5,r6,r7,r8,r9,bq,bz,bB⟩:=g6.k13;clear g r J R I g6 O N aJ aL hPA hbk apU hds hpd;go_wp2;exact ZN (Bc (p:=6) (u:=7) (s:=8) rfl rfl rfl rfl T.o) rfl U.o
  ·skip;have g:=X.o.of (R.block _ X.o.lt);have T:=Zh (vL (World.zU g (.slice none 0 0) (.slice none 0 0) (.bool false) (.slice none 0 0) (.slice none 0 0) (.slice none 0 0) (.slice none 0 0) (.slice none 0 0) (.int .u64 0) (.int .u64 0) (.slice none 0 0) (.slice none 0 0) (.slice none 0 0)));have r:=World.sH w6 Z.heap.size (.slice none 0 0) (.slice none 0 0) (.bool false) (.slice none 0 0) (.slice none 0 0) (.slice none 0 0) (.slice none 0 0) (.slice none 0 0) (.int .u64 0) (.int .u64 0) (.slice none 0 0) (.slice none 0 0) (.slice none 0 0);have J:=(aC Q.o R).trans (r.below (aC Q.o R).size (fun b V=>by have:=HW.o; omega));have x0:=g.at 0;have y0:=g.frozen 0;have x1:=g.at 1;have y1:=g.frozen 1;have x2:=g.at 2;have y2:=g.frozen 2;have x3:=g.at 3;have y3:=g.frozen 3;have x4:=g.at 4;have y4:=g.frozen 4;have x5:=g.at 5;have y5:=g.frozen 5;have x6:=g.at 6;have y6:=g.frozen 6;have x7:=g.at 7;have y7:=g.frozen 7;have x8:=g.at 8;have y8:=g.frozen 8;have x9:=g.at 9;have y9:=g.frozen 9;have az:=g.at 10;have aA:=g.frozen 10;have aD:=g.at 11;have aG:=g.frozen 11;have aH:=g.at 12;have aI:=g.frozen 12;have U:Hid (zY (0:Int) LK ts ⟨⟨t,sc,src⟩,v,y,wh,j,⟨z,A,k⟩,⟨B,D,l⟩,⟨E,F,G⟩,⟨H,dc,m⟩⟩ w (.returned (.tuple #[.agg #[.slice none 0 0,.slice none 0 0,.bool false,.slice none 0 0,.slice none 0 0,.slice none 0 0,.slice none 0 0,.slice none 0 0,.int .u64 0,.int .u64 0,.slice none 0 0,.slice none 0 0,.slice none 0 0],.slice none 0 0,.int .i64 5])) (World.mO w6 Z.heap.size (.slice none 0 0) (.slice none 0 0) (.bool false) (.slice none 0 0) (.slice none 0 0) (.slice none 0 0) (.slice none 0 0) (.slice none 0 0) (.int .u64 0) (.int .u64 0) (.slice none 0 0) (.slice none 0 0) (.slice none 0 0))):=⟨J,.inr (.inl ⟨rfl,hds,rfl⟩)⟩
   unfold World.mO at T U;clear g r J R I g6 O N;go_wp2;exact ZN (Bc (p:=6) (u:=7) (s:=8) rfl rfl rfl rfl T.o) rfl U.o
 ·have P:=n;have aZ:(FI != 0)=true:=by rw[bne_iff_ne]; exact hz
  have HZ:Hid _:=hz;clear hz;have g:=X.o.of (P.block _ X.o.lt);have T:=Zh (vL (World.zU g (.slice none 0 0) (.slice none 0 0) (.bool false) (.slice none 0 0) (.slice none 0 0) (.slice none 0 0) (.slice none 0 0) (.slice none 0 0) (.int .u64 0) (.int .u64 0) (.slice none 0 0) (.slice none 0 0) (.slice none 0 0)));have r:=World.sH w3 Z.heap.size (.slice none 0 0) (.slice none 0 0) (.bool false) (.slice none 0 0) (.slice none 0 0) (.slice none 0 0) (.slice none 0 0) (.slice none 0 0) (.int .u64 0) (.int .u64 0) (.slice none 0 0) (.slice none 0 0) (.slice none 0 0);have J:=(aC Q.o P).trans (r.below (aC Q.o P).size (fun b V=>by have:=HW.o; omega));have x0:=g.at 0;have y0:=g.frozen 0;have x1:=g.at 1;have y1:=g.frozen 1;have x2:=g.at 2;have y2:=g.frozen 2;have x3:=g.at 3;have y3:=g.frozen 3;have x4:=g.at 4;have y4:=g.frozen 4;have x5:=g.at 5;have y5:=g.frozen 5;have x6:=g.at 6;have y6:=g.frozen 6;have x7:=g.at 7;have y7:=g.frozen 7;have x8:=g.at 8;have y8:=g.frozen 8;have x9:=g.at 9;have y9:=g.frozen 9;have az:=g.at 10;have aA:=g.frozen 10;have aD:=g.at 11;have aG:=g.frozen 11;have aH:=g.at 12;have aI:=g.frozen 12;have U:Hid (zY FI LK ts ⟨⟨t,sc,src⟩,v,y,wh,j,⟨z,A,k⟩,⟨B,D,l⟩,⟨E,F,G⟩,⟨H,dc,m⟩⟩ w (.returned (.tuple #[.agg #[.slice none 0 0,.slice none 0 0,.bool false,.slice none 0 0,.slice none 0 0,.slice none 0 0,.slice none 0 0,.slice none 0 0,.int .u64 0,.int .u64 0,.slice none 0 0,.slice none 0 0,.slice none 0 0],.slice none 0 0,.int .i64 FI])) (World.mO w3 Z.heap.size (.slice none 0 0) (.slice none 0 0) (.bool false) (.slice none 0 0) (.slice none 0 0) (.slice none 0 0) (.slice none 0 0) (.slice none 0 0) (.int .u64 0) (.int .u64 0) (.slice none 0 0) (.slice none 0 0) (.slice none 0 0))):=⟨J,.inl ⟨HZ.o,rfl⟩⟩
  unfold World.mO at T U;clear g r J P n M rA;go_wp2;exact ZN (Bc (p:=6) (u:=7) (s:=8) rfl rfl rfl rfl T.o) rfl U.o
def BN(ts:List af)(q:ae)(pl:List ah):Int:=if q.check ts=0 then (if (fV ts q pl).isSome=true then 0 else 5) else q.check ts
def PQ:Option (List bZ)->Nat
 | some ds => (ds.getD (ds.length-1) pz).cost
 | none => 0
def CW(ts:List af)(q:ae)(pl:List ah):Nat:=if q.check ts=0 then PQ (fV ts q pl) else 0
theorem Fq{ts:List af}{q:ae}{pl:List ah}:∀ (k:Nat) (ps:List bZ),fB ts q pl k=some ps->ps.length=k
 | 0,ps,h => by
  injection h with h;rw[<- h];rfl
 | k+1,ps,h => by
  have h':(fB ts q pl k).bind (kX ts q (pl.getD k nz))=some ps:=h
  cases hp:fB ts q pl k with
  | none => rw[hp]at h'; cases h'
  | some qs =>
   rw[hp]at h';have h2:kX ts q (pl.getD k nz) qs=some ps:=h';unfold kX at h2;split at h2
   ·injection h2 with h2;rw[<- h2,ZC,Fq k qs hp];rfl
   ·cases h2
theorem aaz{ds:List bZ}(h:fV ts q pl=some ds):1<=ds.length:=by
 unfold fV at h;split at h
 ·cases h
 ·rename_i hp
  cases hq:fB ts q pl pl.length with
  | none => rw[hq]at h; cases h
  | some ps =>
   rw[hq]at h;have b:(if (dO (pl.getD (pl.length-1) nz).kind&&pO q (pl.getD (pl.length-1) nz).kind (ps.getD (pl.getD (pl.length-1) nz).l.toNat pz).order)=true then some ps else none)=some ds:=h;split at b
   ·injection b with b;rw[<- b,Fq _ _ hq];have a:dI pl=true:=by simpa using hp
    unfold dI at a;simp only[Qo,QE]at a;exact a.1.1.1
   ·cases b
theorem GX(ao:Option Addr)(cap:Nat)(ts:List af)(q:ae)(po:Option Addr)(pc:Nat)(pl:List ah)(w:World)(hx:bu w ao ts)(hq:q.At w)(hkc:q.keys.xs.length<=q.keys.cap)(hoc:q.ord.xs.length<=q.ord.cap)(hn:fq w po pl)(hsh:eG w 0)(hcap:∀ i,i<pl.length->(pl.getD i nz).co.xs.length<=(pl.getD i nz).co.cap) :
  Cb 19 #[.slice ao ts.length cap,.agg q.cells,.slice po pl.length pc] w (.int .i64 (BN ts q pl)):=by
 obtain⟨w1,u,v,y⟩:=aR w q.cells 26;have j:=v;have Q:=y;obtain⟨T,U,V,W,X,Y,Z⟩:=Q.k7;have k:=qD ao cap ts q po pc pl w1 (hx.below j) (hq.below j) hkc hoc (hn.below j) (Jv j hsh) hcap;obtain⟨P,B⟩:∃ c,c=q.check ts:=⟨_,rfl⟩
 obtain⟨LK,D⟩:∃ c,c=fV ts q pl:=⟨_,rfl⟩
 rw[<- B,<- D]at k;have HC:=Zh j;have ag:=Zh B;have ai:=Zh D;obtain⟨l,p⟩:∃ c,c=BN ts q pl:=⟨_,rfl⟩
 rw[<- p];have r:Hid (l=if P=0 then (if LK.isSome=true then 0 else 5) else P):=by show _=_; rw[p,B,D]; rfl
 clear p;clear B D hx hq hkc hoc hn hsh hcap v y Q j;obtain⟨⟨E,sc,src⟩,F,G,wh,b,⟨H,I,d⟩,⟨J,K,g⟩,⟨L,M,N⟩,⟨O,dc,m⟩⟩:=q;have s:ae.cells ⟨⟨E,sc,src⟩,F,G,wh,b,⟨H,I,d⟩,⟨J,K,g⟩,⟨L,M,N⟩,⟨O,dc,m⟩⟩=#[.slice E src.length sc,.slice F wh.length G,.bool b,.slice H d.length I,.slice J g.length K,.slice L N.length M,.slice O m.length dc]:=rfl;rw[s]at u k ⊢;simp only[aa.val]at T U V W X Y Z;clear s;go_enter Tryz.func19,Tryz.ntmps19;go_wp2_with fail;refine k.mono ?_;rintro e w2 ⟨z,A⟩;have R:=Zh (aC HC.o z);have n:Hid (∀ o,Bw w (w2.alloc o)):=fun o=>R.o.trans ((bV _ _).mono R.o.size)
 clear z k u T U V W X Y Z;rcases A with⟨hc,rfl⟩ | ⟨hc,hl,rfl⟩ | ⟨hc,ds,hl,f,a,c,ps,rfl,hf,hp,hd⟩
 ·have t:Hid (l=P):=by show _=_; rw[r.o,Qv hc]
  clear r hc;go_wp2;go_ret;exact⟨by rw[t.o]; rfl,n.o _⟩
 ·have t:Hid (l=5):=by show _=_; rw[r.o,Qu hc,hl]; rfl
  clear r hc hl;go_wp2;go_ret;exact⟨by rw[t.o]; rfl,n.o _⟩
 ·have t:Hid (l=0):=by show _=_; rw[r.o,Qu hc,hl]; rfl
  clear r hc hl hf hp hd;obtain⟨Rh,VD,Ri,S,C,Rj,VE,Rk,Rl,Rm,Rn,Ro,Rp,Rq,dQ⟩:∃ (Rh:Option Addr) (VD Ri S C:Nat) (Rj:Option Addr) (VE Rk:Nat) (Rl:Option Addr) (Rm Rn:Nat) (Ro:Option Addr) (Rp Rq:Nat),f.cells ts ⟨⟨E,sc,src⟩,F,G,wh,b,⟨H,I,d⟩,⟨J,K,g⟩,⟨L,M,N⟩,⟨O,dc,m⟩⟩=#[.slice E src.length sc,.slice F wh.length G,.bool b,.slice H d.length I,.slice J g.length K,.slice L N.length M,.slice O m.length dc,.slice Rh VD Ri,.int .u64 ((S:Nat):Int),.int .u64 ((C:Nat):Int),.slice Rj VE Rk,.slice Rl Rm Rn,.slice Ro Rp Rq]:=⟨f.ca,_,f.cc,_,_,f.ra,_,f.rc,f.na,f.nl,f.nc,f.pa,f.pl,f.pc,rfl⟩
  rw[dQ];clear dQ;go_wp2;go_ret;exact⟨by rw[t.o]; rfl,n.o _⟩
theorem GY(ao:Option Addr)(cap:Nat)(ts:List af)(q:ae)(po:Option Addr)(pc:Nat)(pl:List ah)(w:World)(hx:bu w ao ts)(hq:q.At w)(hkc:q.keys.xs.length<=q.keys.cap)(hoc:q.ord.xs.length<=q.ord.cap)(hn:fq w po pl)(hsh:eG w 0)(hcap:∀ i,i<pl.length->(pl.getD i nz).co.xs.length<=(pl.getD i nz).co.cap) :
  Cb 10 #[.slice ao ts.length cap,.agg q.cells,.slice po pl.length pc] w (.tuple #[.int .u64 ((CW ts q pl:Nat):Int),.int .i64 (BN ts q pl)]):=by
 obtain⟨w1,G,H,I⟩:=aR w q.cells 26;have k:=H;have cK:=I;obtain⟨bD,bN,bA,bG,bO,bT,bQ⟩:=cK.k7;have n:=qD ao cap ts q po pc pl w1 (hx.below k) (hq.below k) hkc hoc (hn.below k) (Jv k hsh) hcap;obtain⟨A,J⟩:∃ c,c=q.check ts:=⟨_,rfl⟩
 obtain⟨LK,B⟩:∃ c,c=fV ts q pl:=⟨_,rfl⟩
 rw[<- J,<- B]at n;have HC:=Zh k;have av:=Zh J;have ax:=Zh B;obtain⟨r,u⟩:∃ c,c=BN ts q pl:=⟨_,rfl⟩
 obtain⟨s,v⟩:∃ c,c=CW ts q pl:=⟨_,rfl⟩
 rw[<- u,<- v];have y:Hid (r=if A=0 then (if LK.isSome=true then 0 else 5) else A):=by show _=_; rw[u,J,B]; rfl
 have l:Hid (s=if A=0 then PQ LK else 0):=by show _=_; rw[v,J,B]; rfl
 have p:Hid (A=0->∀ ds,LK=some ds->1<=ds.length):=fun _ ds au=>aaz (ts:=ts) (q:=q) (pl:=pl) (by rw[<- B]; exact au)
 clear u v;clear J B hx hq hkc hoc hn hsh hcap H I cK k;obtain⟨⟨K,sc,src⟩,L,M,wh,b,⟨N,O,g⟩,⟨P,Q,j⟩,⟨R,T,U⟩,⟨V,dc,m⟩⟩:=q;have E:ae.cells ⟨⟨K,sc,src⟩,L,M,wh,b,⟨N,O,g⟩,⟨P,Q,j⟩,⟨R,T,U⟩,⟨V,dc,m⟩⟩=#[.slice K src.length sc,.slice L wh.length M,.bool b,.slice N g.length O,.slice P j.length Q,.slice R U.length T,.slice V m.length dc]:=rfl;rw[E]at G n ⊢;simp only[aa.val]at bD bN bA bG bO bT bQ;clear E;go_enter Tryz.func10,Tryz.ntmps10;go_wp2_with fail;refine n.mono ?_;rintro e w2 ⟨W,X⟩;have HB:=Zh (aC HC.o W);have t:Hid (∀ o,Bw w (w2.alloc o)):=fun o=>HB.o.trans ((bV _ _).mono HB.o.size)
 clear W n G bD bN bA bG bO bT bQ;rcases X with⟨hc,rfl⟩ | ⟨hc,hl,rfl⟩ | ⟨hc,ds,hl,f,a,c,ps,rfl,hf,hp,hd⟩
 ·have F:Hid (r=A):=by show _=_; rw[y.o,Qv hc]
  have z:Hid (s=0):=by show _=_; rw[l.o,Qv hc]
  have ay:(A != 0)=true:=by rw[bne_iff_ne]; exact hc
  clear y hc l p;go_wp2;go_ret2;exact⟨by rw[F.o,z.o]; rfl,t.o _⟩
 ·have F:Hid (r=5):=by show _=_; rw[y.o,Qu hc,hl]; rfl
  have z:Hid (s=0):=by show _=_; rw[l.o,Qu hc,hl]; rfl
  clear y hc hl l p;go_wp2;go_ret2;exact⟨by rw[F.o,z.o]; rfl,t.o _⟩
 ·have F:Hid (r=0):=by show _=_; rw[y.o,Qu hc,hl]; rfl
  have z:Hid (s=(ps.getD (ps.length-1) aT).cost):=by
   show _=_
   rw[l.o,Qu hc,hl,<- hd]
   show ((ps.map aB.d).getD ((ps.map aB.d).length-1) pz).cost=_
   rw[ZB];exact congrArg bZ.cost (uO aB.d ps (ps.length-1) aT)
  have ag:1<=ps.length:=by have:=p.o hc ds hl; rw[<- hd,ZB]at this; exact this
  obtain⟨D,Y⟩:∃ D,ps.length=D+1:=⟨ps.length-1,by omega⟩
  rw[show ps.length-1=D by omega]at z;obtain⟨⟨pb,ak,rfl,-,-,-,-,-,c5⟩,-⟩:=hp.2 D (by omega);have ai:=hp.1;have az:=Zh c5;generalize (ps.getD D aT).cost=CT at *;rw[Y]at ai ⊢;clear y hc hl hf hp hd l p ag Y;obtain⟨Rh,VD,Ri,S,C,Rj,VE,Rk,Rl,Rm,Rn,Ro,Rp,Rq,dQ⟩:∃ (Rh:Option Addr) (VD Ri S C:Nat) (Rj:Option Addr) (VE Rk:Nat) (Rl:Option Addr) (Rm Rn:Nat) (Ro:Option Addr) (Rp Rq:Nat),f.cells ts ⟨⟨K,sc,src⟩,L,M,wh,b,⟨N,O,g⟩,⟨P,Q,j⟩,⟨R,T,U⟩,⟨V,dc,m⟩⟩=#[.slice K src.length sc,.slice L wh.length M,.bool b,.slice N g.length O,.slice P j.length Q,.slice R U.length T,.slice V m.length dc,.slice Rh VD Ri,.int .u64 ((S:Nat):Int),.int .u64 ((C:Nat):Int),.slice Rj VE Rk,.slice Rl Rm Rn,.slice Ro Rp Rq]:=⟨f.ca,_,f.cc,_,_,f.ra,_,f.rc,f.na,f.nl,f.nc,f.pa,f.pl,f.pc,rfl⟩
  rw[dQ];clear dQ;obtain⟨w3,Z⟩:∃ x,w2.alloc (.cells #[.slice K src.length sc,.slice L wh.length M,.bool b,.slice N g.length O,.slice P j.length Q,.slice R U.length T,.slice V m.length dc,.slice Rh VD Ri,.int .u64 ((S:Nat):Int),.int .u64 ((C:Nat):Int),.slice Rj VE Rk,.slice Rl Rm Rn,.slice Ro Rp Rq] 70)=x:=⟨_,rfl⟩
  have c6:w3.cell? (aD pb (ak+D*6+5))=some (.int .u64 (CT:Int)):=by rw[<- Z]; exact cB (bV _ _) c5
  have aj:Hid (Bw w w3):=by rw[<- Z]; exact t.o _
  clear c5;go_wp2;go_ret2;exact⟨by rw[F.o,z.o]; rfl,aj.o⟩
