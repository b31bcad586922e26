import Derived.Test.YtlpbelhfpoilpaaGreatDoorRE17
import Derived.Test.YtlpbelhfpoilpaaGreatDoorRE26
import Derived.Test.YtlpbelhfpoilpaaGreatDoorRE32
import Derived.Test.YtlpbelhfpoilpaaGreatDoorRE34
set_option linter.all false
set_option maxRecDepth 100000
set_option maxHeartbeats 16000000
namespace Go.Proofs.Zz
open Go.RowKit Go.Shelf
variable {T Tp:TypeId} {F:Nat->Prop} {W0 w:World} {v:Value} {bs:List (Nat × aQ)} {ts:List af} {q:ae} {l r:aQ} {g:List aj} {cl:List Int} {acc:List aQ} {key:Int}
theorem UD(ts:List af)(q:ae)(l r:aQ)(g:List aj)(cl:List Int)(acc:List aQ)(key:Int):(ik ts q l r g cl acc key).length<=acc.length+2:=by
 unfold ik;simp only;split
 ·split
  ·simp
  ·split <;> simp
 ·omega
theorem vZ(ts:List af)(q:ae)(l r:aQ)(g:List aj)(cl:List Int):∀ (ks:List Int) (acc:List aQ),(ks.foldl (ik ts q l r g cl) acc).length<=acc.length+2*ks.length
 | [],_ => by simp
 | k::ks,acc => by
  refine Zl (vZ ts q l r g cl ks _) ?_;have:=UD ts q l r g cl acc k;simp only[Zg];omega
theorem YY(s:Nat):(dG s).length<=64:=by
 unfold dG aR;rw[Zc];exact Zl (List.length_filter_le _ _) (by simp)
theorem FQ{s n:Nat}(h:s<2 ^ n)(hn:n<=64):(dG s).length<=n:=by
 unfold dG aR;rw[Zc];have h2:∀ m,((List.range m).filter fun i=>s.testBit i).length<=min m n:=by
  intro m
  induction m with
  | zero => simp
  | succ m ih =>
   rw[Q9,List.filter_append,Zb];by_cases hb:s.testBit m=true
   ·have hm:m<n:=by
     by_cases hmn:m<n
     ·exact hmn
     ·rw[Q5 (Q6 h (Q7 (by omega) (by omega)))]at hb
      cases hb
    simp[hb];omega
   ·simp[hb];omega
 exact Zl (h2 64) (by omega)
theorem bU.base{base base':Nat}(h:bU T Tp F base w v bs)(hb:base'<=base):bU T Tp F base' w v bs:=
 ⟨mX h.own hb,fun x hx=>⟨(h.tree x hx).1,Zl hb (h.tree x hx).2.1,(h.tree x hx).2.2⟩,h.rise⟩
theorem bU.fz{base:Nat}(h:bU T Tp F base w v bs)(hz:Fz F W0 w)(hb:W0.heap.size<=base):Fz (Fv F v) W0 w:=hz.own fun g e=>⟨Zl hb (ZO h.own e).1,(ZO h.own e).2⟩
theorem bU.mono{T Tp:TypeId}{F G:Nat->Prop}{base:Nat}{w:World}{v:Value}{bs:List (Nat × aQ)}(h:bU T Tp F base w v bs)(hs:∀ b,b<w.heap.size->F b->G b):bU T Tp G base w v bs:=
 ⟨h.own,fun x hx=>⟨(h.tree x hx).1.mono (fun b hb hf=>⟨hs b hb hf.1,hf.2⟩),(h.tree x hx).2⟩,h.rise⟩
theorem bU.alk{s:Nat->Prop}{base:Nat}{w':World}(h:bU T Tp F base w v bs)(hk:Kept s w w')(hF:∀ b,F b->s b)(hv:∀ g,v.ownBlock=some g->s g):bU T Tp F base w' v bs:=
 ⟨ZN h.own hk hv,fun x hx=>⟨(h.tree x hx).1.aX (hk.mono fun b _ hb=>hF b hb.1),(h.tree x hx).2.1,Q6 (h.tree x hx).2.2 hk.size⟩,h.rise⟩
theorem YZ(h:(iM ts q (dM 4 cl key) l.d.sources r.d.sources).2.2=false):ik ts q l r g cl acc key=acc:=by
 unfold ik;simp only;rw[h];rfl
theorem OV(h:(iM ts q (dM 4 cl key) l.d.sources r.d.sources).2.2=true)(hm:rY g (iM ts q (dM 4 cl key) l.d.sources r.d.sources).2.1=none):ik ts q l r g cl acc key=acc++[ay ts q (dM 4 cl key) [l,r]]:=by
 unfold ik;simp only;rw[Qy h,hm]
theorem OW{m:aQ}(h:(iM ts q (dM 4 cl key) l.d.sources r.d.sources).2.2=true)(hm:rY g (iM ts q (dM 4 cl key) l.d.sources r.d.sources).2.1=some m):ik ts q l r g cl acc key=if aP l.d.order [(iM ts q (dM 4 cl key) l.d.sources r.d.sources).1]=true then acc++[ay ts q (dM 4 cl key) [l,r]]++[ay ts q (dM 5 cl key) [l,m]] else acc++[ay ts q (dM 4 cl key) [l,r]]:=by
 unfold ik;simp only;rw[Qy h,hm]
theorem OX{f:au}(E:Env f ts q W0)(hz:Fz F W0 w)(a:Nat)(l:aQ)(ht:aG 178 F w a l)(hlo:jB q l){gb:Nat}{A:Nat->Nat}{os:List ah}(hg:bz 178 297 F w gb A os g)(hgl:g.length<=20)(gc:Nat)(hgo:∀ p∈g,∀ x,p.2=some x->jB q x.2)(hs:(bL g).isSome=true) :
  Calls Tryz.prog 310 #[.agg (f.cells ts q),.pointer (some (aD a 0)),.slice (some (aD gb 0)) g.length gc] w (jP 178 172 F w (dS ts q (aF ts q) l g)):=by
 obtain⟨v0,v1,v2,v3,v4,v5,v6,v7,v8,v9,v10,v11,v12,bB,-⟩:=Xu f ts q;obtain⟨r,hr⟩:=XU.1 hs;obtain⟨y,hy,hyr⟩:=FK hr;have hg0:0<g.length:=by
  cases g with
  | nil => cases hs
  | cons _ _ => simp
 have hrt:=hg.tree _ (lW hg0) y hy;rw[hyr]at hrt;have hro:jB q r:=by rw[<- hyr]; exact hgo _ (lW hg0) y hy
 have HAP:Hid (∀ x,Bw w x->Ce 348 #[.slice (some (aD gb 0)) g.length gc] x (.pointer (some (aD (A y.1) 0)))):=fun x hx=>by
  have:=qW (hg.below hx) hg0 gc;rw[hy]at this;exact this
 obtain⟨pl,hPl,ahp⟩:=ht.lh;obtain⟨pr,Uw,aln⟩:=hrt.lh;have esl:pl.sources=l.d.sources:=congrArg bZ.sources ahp;have esr:pr.sources=r.d.sources:=congrArg bZ.sources aln;have eol:pl.order.xs=l.d.order:=congrArg bZ.order ahp;obtain⟨CL,OI⟩:=eY (dG (bP (aF ts q) l.d.sources r.d.sources))
 have hbt:=qQ (aF ts q) l.d.sources r.d.sources;rw[Xa]at hbt;have arl:CL.length<=8:=by rw[OI]; exact Zl (FQ hbt (by have:=E.eight; omega)) E.eight
 have hsm:gG q.wh.length CL:=by rw[OI]; exact qP hbt
 have HJ:Hid (dS ts q (aF ts q) l g=CL.foldl (ik ts q l r g CL) [ay ts q (dM 3 CL 0) [l,r]]):=by
  show _=_
  unfold dS;simp only;rw[hr,OI];rfl
 have zi:Hid (∀ x,Bw w x->Cb 351 #[.agg #[v0,v1,v2,v3,v4,v5,v6,v7,v8,v9,v10,v11,v12],.int .u64 (pl.sources:Int),.int .u64 (pr.sources:Int)] x (.int .u64 ((bP (aF ts q) l.d.sources r.d.sources:Nat):Int))):=fun x hx=>by
  rw[<- bB,esl,esr];exact KJ E (hz.next hx) _ _ hlo.src hro.src
 have DF:Hid (∀ x,Calls Tryz.prog 242 #[.int .u64 ((bP (aF ts q) l.d.sources r.d.sources:Nat):Int)] x fun e w'=>∃ v,e=.returned v/\w'.ownsRow x.heap.size 3 1 v CL.length (CL.map (Value.int .i64))/\Bw x w'):=fun x=>by
  rw[OI];exact Ci _ (Q6 hbt (Zl (Q7 (n:=2) (by omega) E.eight) (by decide))) x
 have qp:Hid (∀ (G:Nat->Prop) (x:World) (b mb:Nat) (mt:aQ) (ia:Option Addr) (ic:Nat) (kind key:Int),Fz G W0 x->3<=kind->kind<=5->IntsIn G x ⟨ia,ic,CL⟩->aG 178 G x a l->aG 178 G x mb mt->jB q mt->x.cell? (aD b 0)=some (.pointer (some (aD a 0)))->x.cell? (aD b 1)=some (.pointer (some (aD mb 0)))->Calls Tryz.prog 228 #[.agg #[v0,v1,v2,v3,v4,v5,v6,v7,v8,v9,v10,v11,v12],.agg #[.int .i64 kind,.int .i64 0,.int .i64 0,.int .i64 0,.slice ia CL.length ic,.int .i64 key,.slice none 0 0],.slice (some (aD b 0)) 2 2] x (bR 178 G x (ay ts q (dM kind CL key) [l,mt]))):=fun G x b mb mt ia ic kind key hx h3 h5 hi Wn htb hmo hc hc'=>by
  rw[<- bB];exact Kb E hx ⟨kind,0,0,0,⟨ia,ic,CL⟩,key,fC⟩ ⟨hi.at',hi.inf,hi.nil,jd x,oq.nil _ _,fun _=>rfl,Qx _,by show CL.length<=1000; omega,Q8 _⟩ a mb b l mt Wn hlo htb hmo hc hc' h3 h5 hsm
 obtain⟨KP,hKP⟩:∃ KP:Int->Int × Int × Bool,KP=fun key=>iM ts q (dM 4 CL key) l.d.sources r.d.sources:=⟨_,rfl⟩
 have HKC:Hid (∀ (x:World) (ia:Option Addr) (ic:Nat) (key:Int),Bw w x->aB x ia CL->Cb 201 #[.agg #[v0,v1,v2,v3,v4,v5,v6,v7,v8,v9,v10,v11,v12],.agg #[.int .i64 4,.int .i64 0,.int .i64 0,.int .i64 0,.slice ia CL.length ic,.int .i64 key,.slice none 0 0],.agg #[.int .i64 pl.kind,.int .u64 (pl.sources:Int),.int .u64 (pl.clauses:Int),.slice pl.order.ad pl.order.xs.length pl.order.cap,.int .u64 (pl.size:Int),.int .u64 (pl.cost:Int)],.agg #[.int .i64 pr.kind,.int .u64 (pr.sources:Int),.int .u64 (pr.clauses:Int),.slice pr.order.ad pr.order.xs.length pr.order.cap,.int .u64 (pr.size:Int),.int .u64 (pr.cost:Int)]] x (.tuple #[.int .i64 (KP key).1,.int .i64 (KP key).2.1,.bool (KP key).2.2])):=fun x ia ic key hx hi=>by
  have:=nS f ts q ⟨4,0,0,0,⟨ia,ic,CL⟩,key,fC⟩ pl pr x E.ok ((E.at' hz).below hx) hi hPl.ok.sources Uw.ok.sources;rw[<- bB,hKP];simp only;rw[<- esl,<- esr];exact this
 have HSB:Hid (∀ (G:Nat->Prop) (x:World) (ig:Int),bz 178 297 G x gb A os g->Calls Tryz.prog 352 #[.slice (some (aD gb 0)) g.length gc,.int .i64 ig] x fun e w'=>∃ pv,e=.returned pv/\PtrTo 178 G w' pv (rY g ig)/\Bw x w'):=fun G x ig hx=>Hd hx hgl gc ig
 have MZ:Hid (∀ (x:World) (c:Nat) (ig:Int),Bw w x->x.cell? (aD c 0)=some (.int .i64 ig)->Cb 205 #[.slice pl.order.ad pl.order.xs.length pl.order.cap,.slice (some (aD c 0)) 1 1] x (.bool (aP l.d.order [ig]))):=fun x c ig hx hc=>by
  rw[<- eol];exact jI pl.order.ad (some (aD c 0)) pl.order.cap 1 pl.order.xs [ig] x (Qv hx hPl.ok.order) ⟨by simp,fun i hi=>⟨c,0,rfl,by
   have:i=0:=by simpa using hi
   subst this;exact hc⟩⟩ hPl.ok.cap
 have HMT:Hid (∀ ig m,rY g ig=some m->jB q m):=fun ig m hm=>by
  rcases Bg ig _ none m hm with h0 | ⟨n,hn⟩
  ·cases h0
  ·rcases lU g [] _ hn with h0 | ⟨p,hp,e⟩
   ·cases h0
   ·exact hgo p hp _ e
 obtain⟨JK,hJK⟩:∃ J:Nat->List aQ,J=fun k=>(CL.take k).foldl (ik ts q l r g CL) [ay ts q (dM 3 CL 0) [l,r]]:=⟨_,rfl⟩
 have HST:Hid (∀ k,k<CL.length->JK (k+1)=ik ts q l r g CL (JK k) (CL.getD k 0)):=fun k hk=>by rw[hJK]; exact iR _ _ CL 0 hk
 have HNO:Hid (∀ k,k<CL.length->(KP (CL.getD k 0)).2.2=false->JK (k+1)=JK k):=fun k hk e=>by rw[HST.o k hk]; rw[hKP]at e; exact YZ e
 have HHA:Hid (∀ k,k<CL.length->(KP (CL.getD k 0)).2.2=true->rY g (KP (CL.getD k 0)).2.1=none->JK (k+1)=JK k++[ay ts q (dM 4 CL (CL.getD k 0)) [l,r]]):=fun k hk e em=>by rw[HST.o k hk]; rw[hKP]at e em; exact OV e em
 have HMA:Hid (∀ k m,k<CL.length->(KP (CL.getD k 0)).2.2=true->rY g (KP (CL.getD k 0)).2.1=some m->JK (k+1)=if aP l.d.order [(KP (CL.getD k 0)).1]=true then JK k++[ay ts q (dM 4 CL (CL.getD k 0)) [l,r]]++[ay ts q (dM 5 CL (CL.getD k 0)) [l,m]] else JK k++[ay ts q (dM 4 CL (CL.getD k 0)) [l,r]]):=fun k m hk e em=>by rw[HST.o k hk]; rw[hKP]at e em ⊢; exact OW e em
 have HJL:Hid (∀ k,(JK k).length<=20):=fun k=>by
  rw[hJK];refine Zl (vZ ts q l r g CL (CL.take k) _) ?_;rw[Zm];simp;omega
 have HJE:Hid (JK CL.length=dS ts q (aF ts q) l g):=by
  show _=_
  rw[HJ.o,hJK]
  show (CL.take CL.length).foldl _ _=_
  rw[QA]
 have HJ0:Hid (JK 0=[ay ts q (dM 3 CL 0) [l,r]]):=by show _=_; rw[hJK]; rfl
 have HZ:=hd hz;have MX:=hd ht;obtain⟨ra,hra⟩:=eY (A y.1)
 rw[<- hra]at HAP Uw hrt;have YH:=hd hrt;have OY:=hd hro;have HGG:=hd hg;have Be:=hd hPl;have FR:=hd Uw;rw[bB];clear bB E hz ht hlo hg hgo hs hr hy hyr hrt hro hPl ahp Uw aln esl esr eol OI hbt hsm HJ hKP hJK HST hra;generalize dS ts q (aF ts q) l g=R at *;generalize bP (aF ts q) l.d.sources r.d.sources=C at *;obtain⟨T3,Cx⟩:∃ t,t=ay ts q (dM 3 CL 0) [l,r]:=⟨_,rfl⟩
 rw[<- Cx]at HJ0;have HT3:=Zh Cx;clear Cx;obtain⟨plk,pls,plc,⟨R5,R6,pox⟩,ahq,plt⟩:=pl;obtain⟨prk,prs,prc,⟨pra,prq,prx⟩,prz,prt⟩:=pr;simp only at zi HKC MZ;obtain⟨R4,ac5⟩:∃ n,n=pox.length:=⟨_,rfl⟩
 obtain⟨prl,ahr⟩:∃ n,n=prx.length:=⟨_,rfl⟩
 rw[<- ac5,<- ahr]at HKC;rw[<- ac5]at MZ;have HPC:Hid (∀ x,Bw w x->x.cell? (aD a 0)=some (.int .i64 plk)/\x.cell? (aD a 1)=some (.int .u64 (pls:Int))/\x.cell? (aD a 2)=some (.int .u64 (plc:Int))/\x.cell? (aD a 3)=some (.slice R5 R4 R6)/\x.cell? (aD a 4)=some (.int .u64 (ahq:Int))/\x.cell? (aD a 5)=some (.int .u64 (plt:Int))):=fun x hx=>by
  rw[ac5];exact⟨cB hx Be.o.c0,cB hx Be.o.c1,cB hx Be.o.c2,cB hx Be.o.c3,cB hx Be.o.c4,cB hx Be.o.c5⟩
 have HRC:Hid (∀ x,Bw w x->x.cell? (aD ra 0)=some (.int .i64 prk)/\x.cell? (aD ra 1)=some (.int .u64 (prs:Int))/\x.cell? (aD ra 2)=some (.int .u64 (prc:Int))/\x.cell? (aD ra 3)=some (.slice pra prl prq)/\x.cell? (aD ra 4)=some (.int .u64 (prz:Int))/\x.cell? (aD ra 5)=some (.int .u64 (prt:Int))):=fun x hx=>by
  rw[ahr];exact⟨cB hx FR.o.c0,cB hx FR.o.c1,cB hx FR.o.c2,cB hx FR.o.c3,cB hx FR.o.c4,cB hx FR.o.c5⟩
 clear ac5 ahr Be FR;obtain⟨gl,GZ⟩:∃ n,n=g.length:=⟨_,rfl⟩
 rw[<- GZ]at HAP HSB hgl ⊢;clear GZ;obtain⟨w1,hw1,hb1,hg1⟩:=aU w #[v0,v1,v2,v3,v4,v5,v6,v7,v8,v9,v10,v11,v12] 90;obtain⟨a0,a1,a2,a3,a4,a5,a6,a7,a8,a9,iy,iL,a12⟩:=hg1.k13;obtain⟨p0,p1,p2,p3,p4,p5⟩:=HPC.o w1 hb1;obtain⟨q0,q1,q2,q3,q4,q5⟩:=HRC.o w1 hb1;have HB1:=hd hb1;have qU:=hd hg1;have alp:=HAP.o w1 hb1;clear hb1 hg1 HAP;go_enter Tryz.func310,Tryz.ntmps310;go_wp2_with fail;refine alp.mono ?_;rintro e wz ⟨rfl,hwz⟩;have pI:=hwz.symm;subst pI;clear alp hw1;go_wp2_with fail;refine wH w1 fun hS=>?_
 refine wT 0 (.agg #[v0,v1,v2,v3,v4,v5,v6,v7,v8,v9,v10,v11,v12]) hS (fun x hx=>?_) ?_
 ·have e0:=lI hx a0 a1 a2 a3 a4 a5 a6 a7 a8 a9 iy iL a12;go_simp
 refine wt 1 (.pointer (some (aD a 0))) hS ?_;refine wt 2 (.pointer (some (aD a 0))) hS ?_;refine wt 3 (.pointer (some (aD a 0))) hS ?_;refine wt 4 (.pointer (some (aD a 1))) hS ?_;refine lH 5 (.int .u64 (pls:Int)) hS p1 ?_;refine wt 6 (.pointer (some (aD ra 0))) hS ?_;refine wt 7 (.pointer (some (aD ra 0))) hS ?_;refine wt 8 (.pointer (some (aD ra 0))) hS ?_;refine wt 9 (.pointer (some (aD ra 1))) hS ?_;refine lH 10 (.int .u64 (prs:Int)) hS q1 ?_;refine wR 11 fun K hK=>?_
 go_simp;refine Xt (zi.o _ (aA HB1.o hS)) ?_;rintro e wy ⟨rfl,hb⟩;refine oT hK hS hb fun hS=>?_
 clear hK K;have hSL:=hS.size;refine wR 12 fun K hK=>?_
 go_simp;refine Xt (DF.o _) ?_;rintro e w2 ⟨v,rfl,hv,hb⟩;obtain⟨ia,lm,ic,rfl⟩:=ZP hv;refine oT hK hS hb fun hS=>?_
 clear hK K;refine wR 13 fun K hK=>?_
 go_simp;refine hK.o _ _ hS fun hS=>?_
 clear hK K;refine wD ?_
 try simp only[pV]
 try simp only[pV]
 clear p0 p1 p2 p3 p4 p5 q0 q1 q2 q3 q4 q5;obtain⟨iv,qw,pJ,kD,ahs,aht,ahu⟩:=nH hv (by omega);obtain⟨ja,jc,ix⟩:=iv;simp only[ah.val]at qw pJ kD ahs aht ahu;subst pJ;injection qw with hi1 hi2 hi3;subst hi1 hi2 hi3;have Eu:=hS;have RZ:Hid (IntsIn F w2 ⟨ia,ic,ix⟩):=⟨kD,fun _ z e=>HZ.o.high _ (Zl HB1.o.size (Zl hSL (ahs z e))),aht,ahu⟩
 have HG2:=Zh (qU.o.keep (Zo (s:=fun b=>b<w1.heap.size) Eu (fun _ h _=>h)) qU.o.lt);have HB2:=Zh (aA HB1.o Eu);obtain⟨cn,hcn⟩:∃ n,n=ix.length:=⟨_,rfl⟩
 clear hS hSL hv kD ahs aht ahu Eu a0 a1 a2 a3 a4 a5 a6 a7 a8 a9 iy iL a12;obtain⟨w3,hw3⟩:∃ x,w2.alloc (.cells #[.pointer (some (aD a 0)),.pointer (some (aD ra 0))] 172)=x:=⟨_,rfl⟩
 have hb3:Bw w2 w3:=by rw[<- hw3]; exact dn _ _
 have hB3:=aA HB2.o hb3;have ac6:=qp.o F w3 w2.heap.size ra r ia ic 3 0 (HZ.o.next hB3) (by omega) (by omega) (RZ.o.below hb3) (MX.o.below hB3) (YH.o.below hB3) OY.o (by rw[<- hw3]; simp) (by rw[<- hw3]; simp);rw[<- HT3.o]at ac6;have hf2:=HG2.o;obtain⟨a0,a1,a2,a3,a4,a5,a6,a7,a8,a9,iy,iL,a12⟩:=hf2.k13;have ahv:=hd hb3;rw[<- hcn]at ac6 arl ⊢;have JV:=hd hcn;clear hb3 hB3 hf2 hcn;go_wp2_with fail;refine ac6.mono ?_;rintro e w4 ⟨r1,rfl,hT,hr1,hr2,hb4⟩;obtain⟨w5,uT⟩:∃ x,w4.alloc (.cells #[.pointer (some (aD r1 0))] 172)=x:=⟨_,rfl⟩
 have hb5:Bw w4 w5:=by rw[<- uT]; exact dn _ _
 have HI5:=Zh (bU.one (Zl ahv.o.size hb4.size) (by rw[<- uT]; exact l6 _ _) hT hb5 (Qx _) (Zl ahv.o.size hr1) (Q6 hr2 hb5.size));have kF:=Zh (aA ahv.o (aA hb4 hb5));clear ac6 hT hr1 hr2 hb4 hb5 hw3 a0 a1 a2 a3 a4 a5 a6 a7 a8 a9 iy iL a12;go_wp2;clear uT;go_loopw [9,42] (fun pv xv wr=>∃ (k:Nat) (bs:List (Nat × aQ)),k<=cn/\xv=.int .i64 (k:Int)/\Hid (bs.map Prod.snd=JK k)/\Hid (bU 178 172 F w2.heap.size wr pv bs)/\Hid (Bw w2 wr)) (fun _ xv _=>cn-(intOf xv).toNat)
 case atStart=>exact⟨0,[(r1,T3)],Q8 _,rfl,by show _=_; rw[HJ0.o]; rfl,HI5.o,kF.o⟩
 case round=>
  obtain⟨k,bs,hk,rfl,zw,HTI,jV⟩:=hrel;obtain⟨pa,pm,pc,rfl⟩:=ZP HTI.o.own;by_cases hlt:k<cn
  ·have hlt':k<ix.length:=by rw[<- JV.o]; exact hlt
   obtain⟨kb,yl,rfl,hkc⟩:=Qi (Qv jV.o RZ.o.at').2 hlt';have hck:=hkc k hlt';obtain⟨key,hkey⟩:=eY (ix.getD k 0)
   rw[<- hkey]at hck;have ac7:=HNO.o k hlt';have ac8:=HHA.o k hlt';have ac9:=fun m=>HMA.o k m hlt'
   rw[<- hkey]at ac7 ac8 ac9;have hBw:=aA HB2.o jV.o;have HBw:=hd hBw;have hv:∀ z,(Value.slice pa pm pc).ownBlock=some z->w2.heap.size<=z/\z<wr.heap.size:=fun z e=>ZO HTI.o.own e
   have HVO:=Zh hv;obtain⟨FN,hFN⟩:∃ G:Nat->Prop,G=fun b=>F b/\b≠wr.heap.size:=⟨_,rfl⟩
   have sG:Hid (∀ b,FN b↔F b/\b≠wr.heap.size):=fun b=>by rw[hFN]
   have RY:=Zh (HTI.o.mono (fun b hb h=>(sG.o b).2 ⟨h,by omega⟩));obtain⟨G,hG⟩:=eY (Fv FN (.slice pa pm pc))
   have HLW:Hid (W0.heap.size<=w.heap.size/\w.heap.size<=w2.heap.size/\w2.heap.size<=wr.heap.size):=⟨HZ.o.below.size,HB2.o.size,jV.o.size⟩
   have HZN:Hid (∀ x,Bw wr x->wr.heap.size<x.heap.size->Fz FN W0 x):=fun x hx hl=>by
    have h0:=(HZ.o.next hBw).next hx;have:=HLW.o;exact⟨h0.below,fun b hb=>(sG.o b).2 ⟨h0.low b hb,by have:=hb.lt; omega⟩,fun b hb=>(sG.o b).2 ⟨h0.high b hb,by omega⟩⟩
   have HZr:Hid (∀ x,Bw wr x->wr.heap.size<x.heap.size->Fz G W0 x):=fun x hx hl=>by
    rw[hG];exact(HZN.o x hx hl).own (fun g e=>by have:=hv g e; have:=HLW.o; omega)
   have arz:Hid (aG 178 G wr a l):=by rw[hG]; exact(MX.o.mono (G:=FN) (fun b hb h=>(sG.o b).2 ⟨h,by have:=HLW.o; omega⟩)).own hBw (fun z e=>Zl HB2.o.size (hv z e).1)
   have arA:Hid (aG 178 G wr ra r):=by rw[hG]; exact(YH.o.mono (G:=FN) (fun b hb h=>(sG.o b).2 ⟨h,by have:=HLW.o; omega⟩)).own hBw (fun z e=>Zl HB2.o.size (hv z e).1)
   have alq:Hid (IntsIn G wr ⟨some (aD kb yl),ic,ix⟩):=by
    rw[hG];exact(RZ.o.mono (G:=Fv FN (.slice pa pm pc)) (fun b hb h=>⟨(sG.o b).2 ⟨h,by have:=HLW.o; omega⟩,fun e=>by have:=(hv b e).1; omega⟩)).below jV.o
   have alr:=HKC.o;have hfr:=HG2.o.keep (Zo (s:=fun b=>b<w2.heap.size) jV.o (fun _ h _=>h)) HG2.o.lt;have HLX:=Zh HG2.o.lt;have yR:=hd hG;obtain⟨wq,hwq⟩:∃ x,x=wr:=⟨_,rfl⟩
   subst hwq;obtain⟨y1,hy1,hc1,hn1⟩:=aU wq #[.int .i64 4,.int .i64 0,.int .i64 0,.int .i64 0,.slice (some (aD kb yl)) cn ic,.int .i64 key,.slice none 0 0] 58;have hf1:=hfr.keep (Zo (s:=fun b=>b<wq.heap.size) hc1 (fun _ h _=>h)) hfr.lt;obtain⟨a0,a1,a2,a3,a4,a5,a6,a7,a8,a9,iy,iL,a12⟩:=hf1.k13;obtain⟨n0,n1,n2,n3,n4,n5,n6⟩:=hn1.k7;obtain⟨p0,p1,p2,p3,p4,p5⟩:=HPC.o y1 (aA hBw hc1);obtain⟨q0,q1,q2,q3,q4,q5⟩:=HRC.o y1 (aA hBw hc1);have yT:=hd hc1;have HN1:=hd hn1;have HF1:=hd hf1;have HY1:=hd hy1;have KZ:Hid (∀ x,Bw y1 x->Cb 201 #[.agg #[v0,v1,v2,v3,v4,v5,v6,v7,v8,v9,v10,v11,v12],.agg #[.int .i64 4,.int .i64 0,.int .i64 0,.int .i64 0,.slice (some (aD kb yl)) cn ic,.int .i64 key,.slice none 0 0],.agg #[.int .i64 plk,.int .u64 (pls:Int),.int .u64 (plc:Int),.slice R5 R4 R6,.int .u64 (ahq:Int),.int .u64 (plt:Int)],.agg #[.int .i64 prk,.int .u64 (prs:Int),.int .u64 (prc:Int),.slice pra prl prq,.int .u64 (prz:Int),.int .u64 (prt:Int)]] x (.tuple #[.int .i64 (KP key).1,.int .i64 (KP key).2.1,.bool (KP key).2.2])):=fun x hx=>by
    have:=alr x (some (aD kb yl)) ic key (aA hBw (aA hc1 hx)) (alq.o.below (aA hc1 hx)).at';rw[<- JV.o]at this;exact this
   have HL1:=Zh hn1.lt;clear hkc hkey hlt' hG hFN hv hfr hBw hc1 hn1 hf1 hy1 alr;generalize (KP key).1=k1 at *;generalize (KP key).2.1=k2 at *;generalize hk3:(KP key).2.2=k3 at *;clear hk3;go_wp2_with fail;rw[HY1.o];clear HY1;refine wH y1 fun hS=>?_
   refine wT 0 (.agg #[v0,v1,v2,v3,v4,v5,v6,v7,v8,v9,v10,v11,v12]) hS (fun x hx=>?_) ?_
   ·have e0:=lI hx a0 a1 a2 a3 a4 a5 a6 a7 a8 a9 iy iL a12;go_simp
   refine wT 1 (.agg #[.int .i64 4,.int .i64 0,.int .i64 0,.int .i64 0,.slice (some (aD kb yl)) cn ic,.int .i64 key,.slice none 0 0]) hS (fun x hx=>?_) ?_
   ·have e0:=IJ hx n0 n1 n2 n3 n4 n5 n6;go_simp
   refine wt 2 (.pointer (some (aD a 0))) hS ?_;refine wt 3 (.pointer (some (aD a 0))) hS ?_;refine wt 4 (.pointer (some (aD a 0))) hS ?_;refine wT 5 (.agg #[.int .i64 plk,.int .u64 (pls:Int),.int .u64 (plc:Int),.slice R5 R4 R6,.int .u64 (ahq:Int),.int .u64 (plt:Int)]) hS (fun x hx=>?_) ?_
   ·have e0:=MI hx p0 p1 p2 p3 p4 p5;go_simp
   refine wt 6 (.pointer (some (aD ra 0))) hS ?_;refine wt 7 (.pointer (some (aD ra 0))) hS ?_;refine wt 8 (.pointer (some (aD ra 0))) hS ?_;refine wT 9 (.agg #[.int .i64 prk,.int .u64 (prs:Int),.int .u64 (prc:Int),.slice pra prl prq,.int .u64 (prz:Int),.int .u64 (prt:Int)]) hS (fun x hx=>?_) ?_
   ·have e0:=MI hx q0 q1 q2 q3 q4 q5;go_simp
   refine wR 10 fun K hK=>?_
   go_simp;refine Xt (KZ.o _ hS) ?_;rintro e y2 ⟨rfl,hb⟩;refine oT hK hS hb fun hS=>?_
   clear hK K;refine wt 11 (.tuple #[.int .i64 k1,.int .i64 k2,.bool k3]) hS ?_;refine wt 12 (.int .i64 k1) hS ?_;refine wt 13 (.int .i64 k2) hS ?_;refine wt 14 (.bool k3) hS ?_;refine wt 15 (.int .i64 k1) hS ?_;refine wt 16 (.int .i64 k2) hS ?_;refine wR 17 fun K hK=>?_
   go_simp;refine hK.o _ _ hS fun hS=>?_
   clear hK K;refine wD ?_
   try simp only[pV]
   try simp only[pV]
   clear p0 p1 p2 p3 p4 p5 q0 q1 q2 q3 q4 q5 hck a0 a1 a2 a3 a4 a5 a6 a7 a8 a9 iy iL a12 n0 n1 n2 n3 n4 n5 n6;have xE:=hd hS;clear hS
   cases k3 with
   | false =>
    have oz:=Zh (ac7 rfl);have HF:Hid (bU 178 172 F w2.heap.size y2 (.slice pa pm pc) bs/\Bw w2 y2):=⟨(HTI.o.below yT.o).below xE.o,aA jV.o (aA yT.o xE.o)⟩
    clear ac7 ac8 ac9;go_wp2;go_roundw
    case rel=>exact⟨k+1,bs,by omega,by go_num,zw.o.trans oz.o.symm,HF.o.1,HF.o.2⟩
    case measure=>simp[intOf]; omega
   | true =>
    have adb:=Zh (ac8 rfl);have ade:Hid _:=fun m=>ac9 m rfl
    clear ac7 ac8 ac9;have hn2:=HN1.o.keep (Zo (s:=fun b=>b<y1.heap.size) xE.o (fun _ h _=>h)) HN1.o.lt;have hf2:=HF1.o.keep (Zo (s:=fun b=>b<y1.heap.size) xE.o (fun _ h _=>h)) HF1.o.lt;obtain⟨a0,a1,a2,a3,a4,a5,a6,a7,a8,a9,iy,iL,a12⟩:=hf2.k13;obtain⟨n0,n1,n2,n3,n4,n5,n6⟩:=hn2.k7;obtain⟨y3,hy3⟩:∃ x,y2.alloc (.cells #[.pointer (some (aD a 0)),.pointer (some (aD ra 0))] 172)=x:=⟨_,rfl⟩
    have hc3:Bw y2 y3:=by rw[<- hy3]; exact dn _ _
    have adf:=Zh (aA yT.o (aA xE.o hc3));have adg:=qp.o G y3 y2.heap.size ra r (some (aD kb yl)) ic 4 key (HZr.o y3 adf.o (Q6 HL1.o (Zl xE.o.size hc3.size))) (by omega) (by omega) (alq.o.below adf.o) (arz.o.below adf.o) (arA.o.below adf.o) OY.o (by rw[<- hy3]; simp) (by rw[<- hy3]; simp);rw[<- JV.o]at adg;obtain⟨T4,hT4⟩:∃ t,t=ay ts q (dM 4 ix key) [l,r]:=⟨_,rfl⟩
    rw[<- hT4]at adg adb ade;have HN2:=hd hn2;have HF2:=hd hf2;have alu:=hd hc3;clear hn2 hf2 hc3 hT4;go_wp2_with fail;refine adg.mono ?_;rintro e y4 ⟨r4,rfl,hT,hr1,hr2,hb4⟩;have adh:=Zh (aA alu.o hb4);have Y0:=Zh (aA yT.o (aA xE.o adh.o));have hbl:(bs.map Prod.fst).length=bs.length:=Zc _;have Y1:bs.length<=20:=by have h1:=congrArg List.length zw.o; rw[Zc]at h1; rw[h1]; exact HJL.o k
    obtain⟨v5,y5,vE,ug,hk5,⟨za,zm,zc,rfl⟩,tC⟩:=xN y4 w2.heap.size (.slice pa pm pc) (bs.map Prod.fst) (by rw[hbl]; exact(HTI.o.below Y0.o).own) (by rw[hbl]; omega) (Zl jV.o.size Y0.o.size) r4 176;have afl:(Value.slice za zm zc).ownBlock=(Value.slice pa pm pc).ownBlock∨∃ z,(Value.slice za zm zc).ownBlock=some z/\y4.heap.size<=z:=by
     rcases tC with h | h
     ·exact .inl h
     ·exact .inr ⟨_,h,by omega⟩
    have UE:=Zh ((RY.o.below yT.o).push (aA xE.o adh.o) (by rw[yR.o]at hT; exact hT) (Zl xE.o.size (Zl alu.o.size hr1)) hr2 (Zl jV.o.size yT.o.size) ug hk5 afl);have ahx:=(Zo adh.o (fun _ h _=>h)).trans hk5;have K3:=Zh ((aA jV.o Y0.o).trans (hk5.below (Zl jV.o.size Y0.o.size) (fun b hb e=>by have:=(HVO.o b e).1; omega)));have K4:=HF2.o.keep ahx (fun e=>by have:=(HVO.o _ e).1; have:=HLX.o; omega);have hn5:=HN2.o.keep ahx (fun e=>by have:=(HVO.o _ e).2; omega);have HF5:=hd K4;have HN5:=hd hn5;obtain⟨G5,hG5⟩:∃ G,G=Fv FN (.slice za zm zc):=⟨_,rfl⟩
    have alx:=Zh hG5;have hv5:∀ z,(Value.slice za zm zc).ownBlock=some z->w2.heap.size<=z/\z<y5.heap.size:=fun z e=>ZO UE.o.own e
    have UF:=aA HB2.o K3.o;have arC:Hid (bz 178 297 G5 y5 gb A os g):=by rw[hG5]; exact(HGG.o.mono (G:=Fv FN (.slice za zm zc)) (fun b hb h=>⟨(sG.o b).2 ⟨h,by have:=HLW.o; omega⟩,fun e=>by have:=(hv5 b e).1; have:=HB2.o.size; omega⟩)).below UF
    have HL5:=Zh hn5.lt;have arD:Hid (Fz FN W0 y5):=⟨(HZ.o.next UF).below,(HZN.o y4 Y0.o (Q6 HL1.o (Zl xE.o.size adh.o.size))).low,fun b hb=>(sG.o b).2 ⟨(HZ.o.next UF).high b hb,by have:=HL5.o; omega⟩⟩
    have HZ5:Hid (Fz G5 W0 y5):=by rw[hG5]; exact UE.o.fz arD.o (Zl HZ.o.below.size HB2.o.size)
    have arE:Hid (aG 178 G5 y5 a l):=by rw[hG5]; exact(MX.o.mono (G:=FN) (fun b hb h=>(sG.o b).2 ⟨h,by have:=HLW.o; omega⟩)).own UF (fun z e=>Zl HB2.o.size (hv5 z e).1)
    have arF:Hid (IntsIn G5 y5 ⟨some (aD kb yl),ic,ix⟩):=by
     rw[hG5];exact(RZ.o.mono (G:=Fv FN (.slice za zm zc)) (fun b hb h=>⟨(sG.o b).2 ⟨h,by have:=HLW.o; omega⟩,fun e=>by have:=(hv5 b e).1; omega⟩)).below K3.o
    have alz:=hd UF;have adj:Hid ((bs++[(r4,T4)]).length<=21/\(bs++[(r4,T4)]).map Prod.snd=JK k++[T4]):=⟨by simp; omega,by rw[Qs,zw.o]; rfl⟩
    have alA:=HSB.o G5 y5 k2 arC.o;clear adg hT hr1 hr2 hb4 hbl Y1 ug hk5 tC afl ahx hG5 hv5 UF K4 hn5 hy3;generalize bs++[(r4,T4)]=bs5 at *;go_wp2_with (first | (at_builtin; refine Z8 rfl (.tmp 66) (.tmp 73) 176 rfl (.slice pa pm pc) (.slice (some (aD y4.heap.size 0)) 1 1) (.slice za zm zc) y5 rfl rfl vE ?_));clear vE a0 a1 a2 a3 a4 a5 a6 a7 a8 a9 iy iL a12 n0 n1 n2 n3 n4 n5 n6;go_wp2_with fail;refine alA.mono ?_;rintro e y6 ⟨mv,rfl,hmt,hb6⟩;have arG:=Zh ((UE.o.below hb6).mono (fun b _ h=>((sG.o b).1 h).1));have arH:=Zh (aA K3.o hb6);clear alA;rcases hmt with⟨hm0,rfl⟩ | ⟨m,mb,hm0,rfl,hmT⟩
    ·have oz:=Zh (adb.o hm0);clear hm0 hb6 adb ade;go_wp2;go_roundw
     case rel=>exact⟨k+1,bs5,by omega,by go_num,adj.o.2.trans oz.o.symm,arG.o,arH.o⟩
     case measure=>simp[intOf]; omega
    ·have adl:=ade.o m hm0;have HMO:=Zh (HMT.o _ m hm0);have HMB:=hd hmT;obtain⟨p0,p1,p2,p3,p4,p5⟩:=HPC.o y6 (aA alz.o hb6);clear p0 p1 p2 p4 p5;obtain⟨y7,hy7⟩:∃ x,y6.alloc (.cells #[.int .i64 k1] 3)=x:=⟨_,rfl⟩
     have hc7:Bw y6 y7:=by rw[<- hy7]; exact dn _ _
     have hBG:=MZ.o y7 y6.heap.size k1 (aA alz.o (aA hb6 hc7)) (by rw[<- hy7]; simp);have HC7:=Zh (aA hb6 hc7);have arJ:=hd hc7;generalize aP l.d.order [k1]=SB at *;clear hm0 hb6 adb ade hmT hc7;go_wp2_with fail;refine hBG.mono ?_;rintro e y8 ⟨rfl,Ag⟩;have Uy:=Zh (aA HC7.o Ag);have arK:=Zh (aA arJ.o Ag);clear hBG Ag hy7 p3
     cases SB with
     | false =>
      have oz:=hd adl;have HF:Hid (bU 178 172 F w2.heap.size y8 (.slice za zm zc) bs5/\Bw w2 y8):=⟨(UE.o.below Uy.o).mono (fun b _ h=>((sG.o b).1 h).1),aA K3.o Uy.o⟩
      clear adl;go_wp2;go_roundw
      case rel=>exact⟨k+1,bs5,by omega,by go_num,adj.o.2.trans oz.o.symm,HF.o.1,HF.o.2⟩
      case measure=>simp[intOf]; omega
     | true =>
      obtain⟨T5,Wo⟩:∃ t,t=ay ts q (dM 5 ix key) [l,m]:=⟨_,rfl⟩
      have oz:Hid (JK (k+1)=JK k++[T4]++[T5]):=by rw[Wo]; exact adl
      have hn8:=HN5.o.keep (Zo (s:=fun b=>b<y5.heap.size) Uy.o (fun _ h _=>h)) HN5.o.lt;have hf8:=HF5.o.keep (Zo (s:=fun b=>b<y5.heap.size) Uy.o (fun _ h _=>h)) HF5.o.lt;have n0:=hn8.at 0;have z0:=hn8.frozen 0;clear adl;go_upto_region 14 with fail;obtain⟨y9,hy9⟩:∃ x,x=y8.setCell (aD wq.heap.size 0) (.int .i64 5):=⟨_,rfl⟩
      rw[<- hy9];have hn9:GB y9 wq.heap.size 58 #[.int .i64 5,.int .i64 0,.int .i64 0,.int .i64 0,.slice (some (aD kb yl)) cn ic,.int .i64 key,.slice none 0 0]:=by rw[hy9]; exact hn8.set 0 _
      have K5:Kept (fun b=>b≠wq.heap.size) y8 y9:=by rw[hy9]; exact ZL _ _ _ (fun h=>h rfl)
      have hf9:=hf8.keep K5 (by have:=HLX.o; have:=jV.o.size; show w.heap.size≠wq.heap.size; omega);clear hy9 n0 z0 hn8 hf8;obtain⟨a0,a1,a2,a3,a4,a5,a6,a7,a8,a9,iy,iL,a12⟩:=hf9.k13;obtain⟨n0,n1,n2,n3,n4,n5,n6⟩:=hn9.k7;have alB:Below wq.heap.size y8 y9:=K5.below (by have:=Uy.o.size; have:=HL5.o; omega) (fun b hb=>by omega);have hW9:=(aA K3.o Uy.o).trans (alB.mono jV.o.size);have alC:=Zh (iB UE.o.own HN5.o (by decide));have wC:Hid (∀ b,G5 b->b≠wq.heap.size):=fun b h=>by rw[alx.o]at h; exact((sG.o b).1 h.1).2
      have hZ9:=(HZ5.o.next Uy.o).kept' K5 (fun b hb=>by have:=HLW.o; have:=hb.lt; omega);have alD:=(arE.o.below Uy.o).aX (K5.mono (fun b _ h=>wC.o b h));have alE:=(HMB.o.below arK.o).aX (K5.mono (fun b _ h=>wC.o b h));have alF:=(arF.o.below Uy.o).aX (K5.mono (fun b _ h=>wC.o b h));obtain⟨x1,hx1⟩:∃ x,y9.alloc (.cells #[.pointer (some (aD a 0)),.pointer (some (aD mb 0))] 172)=x:=⟨_,rfl⟩
      have hd1:Bw y9 x1:=by rw[<- hx1]; exact dn _ _
      have ahA:=qp.o G5 x1 y9.heap.size mb m (some (aD kb yl)) ic 5 key (hZ9.next hd1) (by omega) (by omega) (alF.below hd1) (alD.below hd1) (alE.below hd1) HMO.o (by rw[<- hx1]; simp) (by rw[<- hx1]; simp);rw[<- JV.o,<- Wo]at ahA;have HD1:=hd hd1;have HW9:=hd hW9;have ahB:=Zh ((UE.o.below Uy.o).alk K5 (fun b h=>((sG.o b).1 h).2) (fun g e h=>alC.o (h ▸ e)));clear Wo hn9 hf9 K5 alB hW9 hZ9 alD alE alF hd1;go_wp2_with fail;refine ahA.mono ?_;rintro e x2 ⟨r5,rfl,hT,hr1,hr2,hb2⟩;have HD2:=Zh (aA HD1.o hb2);have hbl:(bs5.map Prod.fst).length=bs5.length:=Zc _;have Y1:=adj.o.1;obtain⟨v6,x3,hr6,Y2,oI,⟨ua,um,uc,rfl⟩,alG⟩:=xN x2 w2.heap.size (.slice za zm zc) (bs5.map Prod.fst) (by rw[hbl]; exact(ahB.o.below HD2.o).own) (by rw[hbl]; omega) (Zl HW9.o.size HD2.o.size) r5 176;have afn:(Value.slice ua um uc).ownBlock=(Value.slice za zm zc).ownBlock∨∃ z,(Value.slice ua um uc).ownBlock=some z/\x2.heap.size<=z:=by
       rcases alG with h | h
       ·exact .inl h
       ·exact .inr ⟨_,h,by omega⟩
      have HF:Hid (bU 178 172 F w2.heap.size x3 (.slice ua um uc) (bs5++[(r5,T5)])/\Bw w2 x3):=⟨(ahB.o.push HD2.o (by rw[alx.o]at hT; exact hT) (Zl HD1.o.size hr1) hr2 HW9.o.size Y2 oI afn).mono (fun b _ h=>((sG.o b).1 h).1),(aA HW9.o HD2.o).trans (oI.below (Zl HW9.o.size HD2.o.size) (fun b hb e=>by have:=(ZO ahB.o.own e).1; omega))⟩
      have HSN:Hid ((bs5++[(r5,T5)]).map Prod.snd=JK (k+1)):=by show _=_; rw[Qs,adj.o.2,oz.o]; rfl
      clear ahA hT hr1 hr2 hb2 hbl Y1 Y2 oI alG afn hx1;generalize bs5++[(r5,T5)]=bs6 at *;go_wp2_with (first | (at_builtin; refine Z8 rfl (.tmp 91) (.tmp 98) 176 rfl (.slice za zm zc) (.slice (some (aD x2.heap.size 0)) 1 1) (.slice ua um uc) x3 rfl rfl hr6 ?_));clear hr6 a0 a1 a2 a3 a4 a5 a6 a7 a8 a9 iy iL a12 n0 n1 n2 n3 n4 n5 n6;go_wp2;go_roundw
      case rel=>exact⟨k+1,bs6,by omega,by go_num,HSN.o,HF.o.1,HF.o.2⟩
      case measure=>simp[intOf]; omega
  ·have hkc:cn=k:=by omega
   have HF:Hid (bs.map Prod.snd=R):=by
    have:=zw.o;rw[<- hkc,JV.o,HJE.o]at this;exact this
   clear hkc;go_wp2;go_ret;exact⟨.slice pa pm pc,bs,rfl,HF.o,HTI.o.base HB2.o.size,aA HB2.o jV.o⟩
